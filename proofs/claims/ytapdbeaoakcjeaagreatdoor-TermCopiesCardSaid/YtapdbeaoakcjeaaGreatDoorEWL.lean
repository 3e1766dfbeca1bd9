/- The reference's Store at an array value without keys. -/
import Derived.Test.YtapdbeaoakcjeaaGreatDoorEWK
import Derived.Test.YtapdbeaoakcjeaaGreatDoorEUY
import Derived.Test.YtapdbeaoakcjeaaGreatDoorEVB
set_option maxRecDepth 100000
set_option maxHeartbeats 40000000
open Go.Lib (hid)
namespace Go.Proofs.YtapdbeaoakcjeaaGreatDoor.Se
open Go.RowKit Nmx
theorem xb {fn:Func} {t u:Tmp} {a:Act} {w2:World} {R:Nat} {s E:Int} {b:Bool} {num:ByteArray} {k v:Value} {post:Ending→World→Prop} (hres:fn.results=#[.cell t 98,.tmp u]) (hd:a.defers=[]) (ht:a.tmps.getD t undef=.pointer (some ⟨R,0,none⟩)) (hu:a.tmps.getD u undef=.int .i64 E)
    (hk:∃ak nk ck,k=.slice ak nk ck) (hv:∃av nv cv,v=.slice av nv cv)
    (hR:w2.heap[R]? =some (.cells #[.int .i64 s,.bool b,.string num,k,v] 98 (0,0))) (h:post (.returned (.tuple #[cX s b num k v,.int .i64 E])) w2):
    bodyPost Tryz.prog fn post .ret a w2:=by
 obtain ⟨ak,nk,ck,rfl⟩:=hk;obtain ⟨av,nv,cv,rfl⟩:=hv;have k0:=ac hR 0;have k1:=ac hR 1;have k2:=ac hR 2;have k3:=ac hR 3;have k4:=ac hR 4
 simp at k0 k1 k2 k3 k4
 refine bodyPost_ret (v:=.tuple #[cX s b num (.slice ak nk ck) (.slice av nv cv),.int .i64 E]) ?_ hd h;have ht':a.tmps[t]?.getD undef=.pointer (some ⟨R,0,none⟩):=by simpa using ht
 have hu':a.tmps[u]?.getD undef=.int .i64 E:=by simpa using hu
 simp[results,hres,go_sem,cX,ht',hu',k0,k1,k2,k3,k4]
theorem ig {fn:Func} {t:Tmp} {a:Act} {w2:World} {R:Nat} {s:Int} {b:Bool} {num:ByteArray} {k v:Value} {post:Ending→World→Prop} (hres:fn.results=#[.cell t 98]) (hd:a.defers=[]) (ht:a.tmps.getD t undef=.pointer (some ⟨R,0,none⟩))
    (hk:∃ak nk ck,k=.slice ak nk ck) (hv:∃av nv cv,v=.slice av nv cv)
    (hR:w2.heap[R]? =some (.cells #[.int .i64 s,.bool b,.string num,k,v] 98 (0,0))) (h:post (.returned (cX s b num k v)) w2):
    bodyPost Tryz.prog fn post .ret a w2:=by
 obtain ⟨ak,nk,ck,rfl⟩:=hk;obtain ⟨av,nv,cv,rfl⟩:=hv;have k0:=ac hR 0;have k1:=ac hR 1;have k2:=ac hR 2;have k3:=ac hR 3;have k4:=ac hR 4
 simp at k0 k1 k2 k3 k4
 refine bodyPost_ret (v:=cX s b num (.slice ak nk ck) (.slice av nv cv)) ?_ hd h;have ht':a.tmps[t]?.getD undef=.pointer (some ⟨R,0,none⟩):=by simpa using ht
 simp[results,hres,go_sem,cX,ht',k0,k1,k2,k3,k4]
def SK (R:Nat) (key:ByteArray) (u:Value) (W:World):Prop:=∃B c,u=.slice (some ⟨B,0,none⟩) 1 c∧W.cell? ⟨B,0,none⟩=some (.string key)∧B<W.heap.size∧R<B
theorem SK.far {R:Nat} {key:ByteArray} {u:Value} {W W':World} (h:SK R key u W) (hb:Below W.heap.size W W'):SK R key u W':=
 let ⟨B,c,h1,h2,h3,h4⟩:=h;⟨B,c,h1,(hb.cell (p:=⟨B,0,none⟩) h3).trans h2,ap h3 hb.size,h4⟩
theorem SK.set {R:Nat} {key:ByteArray} {u:Value} {W:World} (h:SK R key u W) {q:Nat} (hq:q≤R) (j:Nat) (x:Value):SK R key u (W.setCell ⟨q,j,none⟩ x):=
 let ⟨B,c,h1,h2,h3,h4⟩:=h;⟨B,c,h1,by rw[World.cell?_setCell_other _ _ _ _ (by intro e;have:=congrArg Addr.block e;simp only at this;omega)];exact h2,by simpa [World.setCell] using h3,h4⟩
theorem SK.sl {R:Nat} {key:ByteArray} {u:Value} {W:World} (h:SK R key u W):∃a n c,u=.slice a n c:=let ⟨_,_,h1,_⟩:=h;⟨_,_,_,h1⟩
def SKV (R:Nat) (num key val:ByteArray) (k v:Value) (W:World):Prop:=(k=noS∧v=noS)∨((val.toList==num.toList)=false∧SK R key k W∧SK R val v W)
theorem SKV.far {R:Nat} {num key val:ByteArray} {k v:Value} {W W':World} (h:SKV R num key val k v W) (hb:Below W.heap.size W W'):SKV R num key val k v W':=by
 rcases h with h | ⟨h1,h2,h3⟩
 · exact .inl h
 · exact .inr ⟨h1,h2.far hb,h3.far hb⟩
theorem SKV.set {R:Nat} {num key val:ByteArray} {k v:Value} {W:World} (h:SKV R num key val k v W) {q:Nat} (hq:q≤R) (j:Nat) (x:Value):SKV R num key val k v (W.setCell ⟨q,j,none⟩ x):=by
 rcases h with h | ⟨h1,h2,h3⟩
 · exact .inl h
 · exact .inr ⟨h1,h2.set hq j x,h3.set hq j x⟩
theorem SKV.sl {R:Nat} {num key val:ByteArray} {k v:Value} {W:World} (h:SKV R num key val k v W):(∃a n c,k=.slice a n c)∧∃a n c,v=.slice a n c:=by
 rcases h with ⟨rfl,rfl⟩ | ⟨-,h2,h3⟩
 · exact ⟨⟨_,_,_,rfl⟩,⟨_,_,_,rfl⟩⟩
 · exact ⟨h2.sl,h3.sl⟩
theorem SKV.mono {R R':Nat} {num key val:ByteArray} {k v:Value} {W:World} (h:SKV R num key val k v W) (hr:R'≤R):SKV R' num key val k v W:=by
 rcases h with h | ⟨h1,⟨B,c,a1,a2,a3,a4⟩,⟨B',c',b1,b2,b3,b4⟩⟩
 · exact .inl h
 · exact .inr ⟨h1,⟨B,c,a1,a2,a3,by omega⟩,⟨B',c',b1,b2,b3,by omega⟩⟩
structure STX (S R:Nat) (num:ByteArray) (k v:Value) (w W:World):Prop where
 b3:W.heap[S]? =some (.cells #[.int .i64 4,.bool false,.string num,.slice none 0 0,.slice none 0 0] 98 (0,0))
 b6:W.heap[S+1]? =some (.cells #[.int .i64 0,.bool false,.string ⟨#[]⟩,.slice none 0 0,.slice none 0 0] 98 (0,0))
 b8:W.heap[R]? =some (.cells #[.int .i64 4,.bool false,.string num,k,v] 98 (0,0))
 lt:S+1<R
 bel:Below S w W
theorem STX.far {S R:Nat} {num:ByteArray} {k v:Value} {w W W':World} (h:STX S R num k v w W) (hb:Below W.heap.size W W'):STX S R num k v w W':=
 ⟨(hb.block _ (ay h.b3)).trans h.b3,(hb.block _ (ay h.b6)).trans h.b6,(hb.block _ (ay h.b8)).trans h.b8,h.lt,h.bel.trans (hb.mono (aI (ay h.b3)))⟩
theorem STX.set {S R:Nat} {num:ByteArray} {k v:Value} {w W:World} (h:STX S R num k v w W) (j:Nat) (x:Value) (k' v':Value) (he:(#[.int .i64 4,.bool false,.string num,k,v]:Array Value).setIfInBounds j x=#[.int .i64 4,.bool false,.string num,k',v']):STX S R num k' v' w (W.setCell ⟨R,j,none⟩ x):=by
 have hne:∀q,q≠R→(W.setCell ⟨R,j,none⟩ x).heap[q]? =W.heap[q]? :=fun q hq=>aB _ _ _ _ hq
 exact ⟨(hne S (by have:=h.lt;omega)).trans h.b3,(hne (S+1) (by have:=h.lt;omega)).trans h.b6,by have:=heap_set h.b8 j x;rw[he] at this;exact this,h.lt,h.bel.setCell (show S≤R by have:=h.lt;omega) _⟩
theorem yk:(Tryz.prog.info? 9).map (fun i=>(i.zero,i.size,i.bytes))=some (some (.string ⟨#[]⟩),1,16):=by kernel_rfl
section
theorem sf (num key val:ByteArray) (w:World) (hs:num.size≤1000) (h:iN num=true) (hsk:key.size≤1000) (hk:iN key=true) (hsv:val.size≤1000) (hv:iN val=true):
    Calls Tryz.prog 110 #[cX 4 false num noS noS,.string key,.string val] w fun e w'=>∃k v,e=.returned (.tuple #[cX 4 false num k v,.int .i64 0])∧SKV w.heap.size num key val k v w'∧Below w.heap.size w w':=by
 obtain ⟨i0,hi,hz0,hz1,hz2⟩:=info_parts yk;have hA:=aD w (.cells #[.int .i64 4,.bool false,.string num,.slice none 0 0,.slice none 0 0] 98);have hA2:=aD (w.alloc (.cells #[.int .i64 4,.bool false,.string num,.slice none 0 0,.slice none 0 0] 98)) (.cells #[.int .i64 0,.bool false,.string ⟨#[]⟩,.slice none 0 0,.slice none 0 0] 98);have b3:=(hA2.block _ (ay (heap_alloc_new w (.cells #[.int .i64 4,.bool false,.string num,.slice none 0 0,.slice none 0 0] 98)))).trans (heap_alloc_new w (.cells #[.int .i64 4,.bool false,.string num,.slice none 0 0,.slice none 0 0] 98));have b6:=heap_alloc_new (w.alloc (.cells #[.int .i64 4,.bool false,.string num,.slice none 0 0,.slice none 0 0] 98)) (.cells #[.int .i64 0,.bool false,.string ⟨#[]⟩,.slice none 0 0,.slice none 0 0] 98);rw[show (w.alloc (.cells #[.int .i64 4,.bool false,.string num,.slice none 0 0,.slice none 0 0] 98)).heap.size=w.heap.size+1 by simp] at b6;have hbel:=hA.trans (hA2.mono hA.size);have hq:=tt num ((w.alloc (.cells #[.int .i64 4,.bool false,.string num,.slice none 0 0,.slice none 0 0] 98)).alloc (.cells #[.int .i64 0,.bool false,.string ⟨#[]⟩,.slice none 0 0,.slice none 0 0] 98)) hs h;have hqk:=fun W:World=>dm key W hsk hk
 have hqv:=fun W:World=>dm val W hsv hv
 unfold cX noS at hq;unfold cX noS;clear hA hA2 h hk hv
 go_enter Tryz.func110,Tryz.ntmps110
 go_wp2_with fail
 generalize (w.alloc (.cells #[.int .i64 4,.bool false,.string num,.slice none 0 0,.slice none 0 0] 98)).alloc (.cells #[.int .i64 0,.bool false,.string ⟨#[]⟩,.slice none 0 0,.slice none 0 0] 98)=w1 at *;generalize hS:w.heap.size=S at *;have HS:=hid hS;refine hq.mono ?_;rintro e w2 ⟨rfl,hb⟩;have hszb:S≤w1.heap.size:=aI (ay b3);replace b3:=(hb.block _ (ay b3)).trans b3;replace b6:=(hb.block _ (ay b6)).trans b6;replace hbel:=hbel.trans (hb.mono hszb);clear hb hq hszb
 go_wp2_with fail
 refine (hqk _).mono ?_;rintro e w3 ⟨rfl,hb⟩;have hszb:S≤w2.heap.size:=aI (ay b3);replace b3:=(hb.block _ (ay b3)).trans b3;replace b6:=(hb.block _ (ay b6)).trans b6;replace hbel:=hbel.trans (hb.mono hszb);clear hb hqk hszb
 go_wp2_with fail
 refine (hqv _).mono ?_;rintro e w4 ⟨rfl,hb⟩;have hszb:S≤w3.heap.size:=aI (ay b3);replace b3:=(hb.block _ (ay b3)).trans b3;replace b6:=(hb.block _ (ay b6)).trans b6;replace hbel:=hbel.trans (hb.mono hszb);have d0:=ac b3 0;have d2:=ac b3 2;have hA8:=aD w4 (.cells #[.int .i64 4,.bool false,.string num,.slice none 0 0,.slice none 0 0] 98);have hX:STX S w4.heap.size num (.slice none 0 0) (.slice none 0 0) w (w4.alloc (.cells #[.int .i64 4,.bool false,.string num,.slice none 0 0,.slice none 0 0] 98)):=⟨(hA8.block _ (ay b3)).trans b3,(hA8.block _ (ay b6)).trans b6,heap_alloc_new w4 _,ay b6,hbel.trans (hA8.mono (aI (ay b3)))⟩
 have HX0:=hid hX;clear hb hqv hszb b3 b6 hbel hA8 hX hS;generalize hRR:w4.heap.size=R at *;have HRR:=hid hRR;clear hRR
 go_wp2
 rw[HRR.out];generalize w4.alloc (.cells #[.int .i64 4,.bool false,.string num,.slice none 0 0,.slice none 0 0] 98)=w5 at *
 go_loopw [9,10] (fun p i wr=>(i=.int .i64 0∧p=.bool false∧STX S R num (.slice none 0 0) (.slice none 0 0) w wr)∨(i=.int .i64 1∧p=.bool true∧∃k v,STX S R num k v w wr∧SKV R num key val k v wr)) (fun _ i _=>1-(intOf i).toNat)
 case atStart=>exact .inl ⟨rfl,rfl,HX0.out⟩
 case round=>
  clear d0 d2 HX0;rcases hrel with ⟨rfl,rfl,hX⟩ | ⟨rfl,rfl,k,v,hX,hK⟩
  · have HX:=hid hX;have d2:=ac hX.b3 2;have d3:=ac hX.b3 3;clear hX;cases hne:val.toList==num.toList
    · go_upto_region 11 with fail
      refine aV [[],[0],[],[2],[0,1,2,3],[],[5],[],[7],[0,1,2,3,4,5,6,7,8],[0,1,2,3,4,5,6],[0,1,2,3,4,5,6,7,8,9,10],[0,1,2,3,4,5,6,7,8,9,10,11],[0,1,2,3,4,5,6,7,8,9,10,11,12]] (fun W=>STX S R num (.slice none 0 0) (.slice none 0 0) w W) (fun _=>True) ?_
      iterate 3
       apply aR
       · intro x;go_simp;done
       · intro x W R hW hF hR;have d3:=ac hW.b8 3;have d4:=ac hW.b8 4;clear hF;unfold aN
         go_simp
         simp only[aF];exact hR _ (ah _ _)
       simp only[Act.put,aa,aj,am]
      refine cY (fun u W=>∃B,u=.slice (some ⟨B,0,none⟩) 1 1∧W.heap[B]? =some (.cells #[.string key] 9 (0,0))) (fun _ _ _ h hb=>let ⟨B,h1,h2⟩:=h;⟨B,h1,(hb.block _ (ay h2)).trans h2⟩) ?_ ?_ ?_
      · intro x;go_simp;done
      · intro x W R' hW hF hR;clear hF;unfold aN
        go_simp
        simp only[aF];exact hR _ _ ⟨W.heap.size,rfl,heap_alloc_new W _⟩ (aD W _)
      simp only[Act.put,aa,aj,am,au,aH,Nat.zero_add,Nat.reduceAdd];refine cY (fun u W=>SK R key u W) (fun _ _ _ h hb=>h.far hb) ?_ ?_ ?_
      · intro x;go_simp;done
      · intro x W R' hW hF hR;obtain ⟨B2,hx2,hB2⟩:=hF.1.2 rfl rfl rfl;have hlR:=ay hW.b8;clear hF;simp only[hx2];refine dJ (.tmp 66) (.tmp 68) 42 rfl (R+1) 9 i0 _ 1 16 Tryz.underlying42 hi hz0 hz1 hz2 rfl (by decide) (.slice none 0 0) 0 [] rfl (World.ownsRow_nil _ _ _ _) ⟨B2,0,none⟩ 1 1 [.string key] rfl rfl (World.news_of_block (cs:=#[.string key]) (t:=9) (fr:=(0,0)) hB2) (by simp[Value.oneCell']) (by decide) (by decide) (by omega) ?_;intro v' w' hrow hg;rw[List.nil_append] at hrow;refine hR _ _ ?_ ((ah _ _).grown hg (ag _) (fun k h=>by cases h));obtain ⟨g,c,hv,hB,-,-⟩:=aS hrow (by decide);subst hv;exact ⟨g,c,rfl,hrow.cellAt 0 (by decide),(hrow.lt g rfl).2,by omega⟩
      simp only[Act.put,aa,aj,am,au,aH,Nat.zero_add,Nat.reduceAdd]
      iterate 3
       apply aR
       · intro x;go_simp;done
       · intro x W R hW hF hR;have d3:=ac hW.b8 3;have d4:=ac hW.b8 4;clear hF;unfold aN
         go_simp
         simp only[aF];exact hR _ (ah _ _)
       simp only[Act.put,aa,aj,am]
      refine cY (fun u W=>∃B,u=.slice (some ⟨B,0,none⟩) 1 1∧W.heap[B]? =some (.cells #[.string val] 9 (0,0))) (fun _ _ _ h hb=>let ⟨B,h1,h2⟩:=h;⟨B,h1,(hb.block _ (ay h2)).trans h2⟩) ?_ ?_ ?_
      · intro x;go_simp;done
      · intro x W R' hW hF hR;clear hF;unfold aN
        go_simp
        simp only[aF];exact hR _ _ ⟨W.heap.size,rfl,heap_alloc_new W _⟩ (aD W _)
      simp only[Act.put,aa,aj,am,au,aH,Nat.zero_add,Nat.reduceAdd];refine cY (fun u W=>SK R val u W) (fun _ _ _ h hb=>h.far hb) ?_ ?_ ?_
      · intro x;go_simp;done
      · intro x W R' hW hF hR;obtain ⟨B2,hx2,hB2⟩:=hF.1.2 rfl rfl rfl;have hlR:=ay hW.b8;clear hF;simp only[hx2];refine dJ (.tmp 71) (.tmp 73) 42 rfl (R+1) 9 i0 _ 1 16 Tryz.underlying42 hi hz0 hz1 hz2 rfl (by decide) (.slice none 0 0) 0 [] rfl (World.ownsRow_nil _ _ _ _) ⟨B2,0,none⟩ 1 1 [.string val] rfl rfl (World.news_of_block (cs:=#[.string val]) (t:=9) (fr:=(0,0)) hB2) (by simp[Value.oneCell']) (by decide) (by decide) (by omega) ?_;intro v' w' hrow hg;rw[List.nil_append] at hrow;refine hR _ _ ?_ ((ah _ _).grown hg (ag _) (fun k h=>by cases h));obtain ⟨g,c,hv,hB,-,-⟩:=aS hrow (by decide);subst hv;exact ⟨g,c,rfl,hrow.cellAt 0 (by decide),(hrow.lt g rfl).2,by omega⟩
      simp only[Act.put,aa,aj,am,au,aH,Nat.zero_add,Nat.reduceAdd];apply aR
      · intro x;go_simp;done
      · intro x W R hW hF hR;have d3:=ac hW.b8 3;have d4:=ac hW.b8 4;clear hF;unfold aN
        go_simp
        simp only[aF];exact hR _ (ah _ _)
      simp only[Act.put,aa,aj,am];refine fG (fun x W=>STX S R num (x 4) (.slice none 0 0) w W∧SK R key (x 4) W∧SK R val (x 9) W) (fun _ _ _ h hb=>⟨h.1.far hb,h.2.1.far hb,h.2.2.far hb⟩) (fun x x' w h hT=>by have e:=h 4 (.inr (List.contains_iff_mem.1 rfl));have e9:=h 9 (.inr (List.contains_iff_mem.1 rfl));rw[e,e9] at hT;exact hT) ?_ ?_ ?_
      · intro x;go_simp;done
      · intro x W R' hW hF hD hR;have h9:=hF.2.1.2 rfl rfl rfl;have h4:=hF.2.2.2.2.2.2.1.2 rfl rfl rfl;simp only[AK.fact] at h9 h4;have hW4:=hW.set 3 (x 4) (x 4) (.slice none 0 0) rfl;have h94:=h9.set (ag R) 3 (x 4);have h44:=h4.set (ag R) 3 (x 4);obtain ⟨a4,n4,c4,hx4⟩:=h4.sl;have d3:=ac hW.b8 3;have fr:=fun i=>aM hW.b8 i
        clear hF;simp only[hx4];rw[hx4] at hW4 h94 h44;unfold aN
        go_simp
        simp only[aF];refine hR _ _ ?_ trivial (by simp[World.setCell]);show STX S R num (bM x 11 undef 4) (.slice none 0 0) w _∧SK R key (bM x 11 undef 4) _∧SK R val (bM x 11 undef 9) _;rw[bC (i:=11) (j:=4) _ _ (by decide),bC (i:=11) (j:=9) _ _ (by decide),hx4];exact ⟨hW4,h44,h94⟩
      simp only[Act.put];apply lH
      · intro x;go_simp;done
      · intro x W R' hW hF hR;clear hF hW;unfold aN
        go_simp
        simp only[aF];exact hR _ (ah _ _)
      simp only[Act.put,aa,aj,am];refine qW (fun x W=>STX S R num (x 4) (x 9) w W∧SK R key (x 4) W∧SK R val (x 9) W) (fun _ _ _ h hb=>⟨h.1.far hb,h.2.1.far hb,h.2.2.far hb⟩) (fun x x' w h hT=>by have e:=h 4 (.inr (List.contains_iff_mem.1 rfl));have e9:=h 9 (.inr (List.contains_iff_mem.1 rfl));rw[e,e9] at hT;exact hT) ?_ ?_ ?_
      · intro x;go_simp;done
      · intro x W R' hW hF hD hR;have hT:=hF.2.1.2 rfl rfl rfl;simp only[AK.fact] at hT;obtain ⟨h8,h4,h9⟩:=hT;have hW4:=h8.set 4 (x 9) (x 4) (x 9) rfl;have h94:=h9.set (ag R) 4 (x 9);have h44:=h4.set (ag R) 4 (x 9);obtain ⟨a9,n9,c9,hx9⟩:=h9.sl;have d4:=ac h8.b8 4;have fr:=fun i=>aM h8.b8 i
        clear hF;simp only[hx9];rw[hx9] at hW4 h94 h44;unfold aN
        go_simp
        simp only[aF];refine hR _ _ ?_ trivial (by simp[World.setCell]);show STX S R num (bM x 13 undef 4) (bM x 13 undef 9) w _∧SK R key (bM x 13 undef 4) _∧SK R val (bM x 13 undef 9) _;rw[bC (i:=13) (j:=4) _ _ (by decide),bC (i:=13) (j:=9) _ _ (by decide),hx9];exact ⟨hW4,h44,h94⟩
      simp only[Act.put];refine cz (by kernel_rfl) (by kernel_rfl) (by kernel_rfl) (fun _ _ h hb=>h.far hb) (fun _ _ _ _=>trivial) (fun _ _=>trivial) (HX.out.far (ah _ _).drew) ?_;intro x W hE hW hF hD;clear hD;have hT:=hF.1.2 rfl;simp only[AK.fact] at hT;obtain ⟨h8,h4,h9⟩:=hT;have HT:=hid h8;have HK:Hid (SKV R num key val (x 4) (x 9) W):=hid (.inr ⟨hne,h4,h9⟩);have d3:=ac h8.b3 3;clear hF hW h8 h4 h9;generalize x 4=k4 at *;generalize x 9=v9 at *
      go_wp2
      go_roundw
      case rel=>exact .inr ⟨by go_num,rfl,k4,v9,HT.out,HK.out⟩
      case measure=>simp[intOf]
    · go_wp2
      go_roundw
      case rel=>exact .inr ⟨by go_num,rfl,_,_,HX.out,.inl ⟨rfl,rfl⟩⟩
      case measure=>simp[intOf]
  · have d3:=ac hX.b3 3;have e0:=ac hX.b8 0;have e1:=ac hX.b8 1;have e2:=ac hX.b8 2;have e3:=ac hX.b8 3;have e4:=ac hX.b8 4;have f0:=ac hX.b6 0;have fz0:=aM hX.b6 0;have f1:=ac hX.b6 1;have fz1:=aM hX.b6 1;have f2:=ac hX.b6 2;have fz2:=aM hX.b6 2;have f3:=ac hX.b6 3;have fz3:=aM hX.b6 3;have f4:=ac hX.b6 4;have fz4:=aM hX.b6 4;obtain ⟨⟨ak,nk,ck,rfl⟩,⟨av,nv,cv,rfl⟩⟩:=hK.sl;have HX:=hid hX;have HK:=hid hK;clear hX hK;have h0:¬(1:Int)≤0:=by omega
    go_wp2
    have hx:=HX.out;have hk:=HK.out;have hl:=hx.lt;have hfin:=heap_set (heap_set (heap_set (heap_set (heap_set hx.b6 0 (.int .i64 4)) 1 (.bool false)) 2 (.string num)) 3 (.slice ak nk ck)) 4 (.slice av nv cv);refine xb rfl rfl rfl rfl ⟨_,_,_,rfl⟩ ⟨_,_,_,rfl⟩ hfin ⟨_,_,rfl,?_,?_⟩
    · rw[HS.out];have hq:S+1≤R:=by omega
      exact (((((hk.set hq 0 _).set hq 1 _).set hq 2 _).set hq 3 _).set hq 4 _).mono (by omega)
    · rw[HS.out];have hq:S≤S+1:=by omega
      exact ((((hx.bel.setCell (p:=⟨S+1,0,none⟩) hq _).setCell (p:=⟨S+1,1,none⟩) hq _).setCell (p:=⟨S+1,2,none⟩) hq _).setCell (p:=⟨S+1,3,none⟩) hq _).setCell (p:=⟨S+1,4,none⟩) hq _
end
end Go.Proofs.YtapdbeaoakcjeaaGreatDoor.Se

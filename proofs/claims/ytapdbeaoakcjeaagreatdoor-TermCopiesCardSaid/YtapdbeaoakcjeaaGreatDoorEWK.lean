/- The reference's ValidValue at small values. -/
import Derived.Test.YtapdbeaoakcjeaaGreatDoorEWD
import Derived.Test.YtapdbeaoakcjeaaGreatDoorELS
import Derived.Test.YtapdbeaoakcjeaaGreatDoorEUT
import Derived.Test.YtapdbeaoakcjeaaGreatDoorEUE
set_option maxRecDepth 100000
set_option maxHeartbeats 40000000
open Go.Lib (hid)
namespace Go.Proofs.YtapdbeaoakcjeaaGreatDoor.Se
open Go.RowKit Nmx
def cX (s:Int) (b:Bool) (num:ByteArray) (k v:Value):Value:=.agg #[.int .i64 s,.bool b,.string num,k,v]
def noS:Value:=.slice none 0 0
section
theorem yi (b:Bool) (w:World):Calls Tryz.prog 108 #[cX 1 b ⟨#[]⟩ noS noS] w fun e w'=>e=.returned (.bool true)∧Below w.heap.size w w':=by
 have HB:=hid (aD w (.cells #[.int .i64 1,.bool b,.string ⟨#[]⟩,.slice none 0 0,.slice none 0 0] 98));unfold cX noS;cases b
 all_goals
  go_enter Tryz.func108,Tryz.ntmps108
  go_wp2
  go_ret
  exact ⟨rfl,HB.out⟩
theorem zn (s:Int) (num:ByteArray) (w:World) (hs:num.size≤1000) (h:s=2∧iN num=true∨s=3∧vN num=true):Calls Tryz.prog 108 #[cX s false num noS noS] w fun e w'=>e=.returned (.bool true)∧Below w.heap.size w w':=by
 have hA:=aD w (.cells #[.int .i64 s,.bool false,.string num,.slice none 0 0,.slice none 0 0] 98);have HB:=hid hA;unfold cX noS;rcases h with ⟨rfl,h⟩ | ⟨rfl,h⟩
 · have hq:=dm num (w.alloc (.cells #[.int .i64 2,.bool false,.string num,.slice none 0 0,.slice none 0 0] 98)) hs h
   go_enter Tryz.func108,Tryz.ntmps108
   go_wp2_with fail
   refine hq.mono ?_;rintro e w2 ⟨rfl,hb⟩;have HB2:=hid (HB.out.trans (hb.mono HB.out.size));clear hb hq
   go_wp2
   go_ret
   exact ⟨rfl,HB2.out⟩
 · have hq:=mC num (w.alloc (.cells #[.int .i64 3,.bool false,.string num,.slice none 0 0,.slice none 0 0] 98)) hs h
   go_enter Tryz.func108,Tryz.ntmps108
   go_wp2_with fail
   refine hq.mono ?_;rintro e w2 ⟨rfl,hb⟩;have HB2:=hid (HB.out.trans (hb.mono HB.out.size));clear hb hq
   go_wp2
   go_ret
   exact ⟨rfl,HB2.out⟩
theorem tt (num:ByteArray) (w:World) (hs:num.size≤1000) (h:iN num=true):Calls Tryz.prog 108 #[cX 4 false num noS noS] w fun e w'=>e=.returned (.bool true)∧Below w.heap.size w w':=by
 have hA:=aD w (.cells #[.int .i64 4,.bool false,.string num,.slice none 0 0,.slice none 0 0] 98);have hX:=heap_alloc_new w (.cells #[.int .i64 4,.bool false,.string num,.slice none 0 0,.slice none 0 0] 98);have HB:=hid hA;have hq:=dm num (w.alloc (.cells #[.int .i64 4,.bool false,.string num,.slice none 0 0,.slice none 0 0] 98)) hs h;unfold cX noS
 go_enter Tryz.func108,Tryz.ntmps108
 go_wp2_with fail
 generalize w.alloc (.cells #[.int .i64 4,.bool false,.string num,.slice none 0 0,.slice none 0 0] 98)=w1 at *;generalize hS:w.heap.size=S at *;have HS:=hid hS;refine hq.mono ?_;rintro e w2 ⟨rfl,hb⟩;have hX2:=(hb.block _ (ay hX)).trans hX;have d3:=ac hX2 3;have d4:=ac hX2 4;have HB2:=hid (HB.out.trans (hb.mono (aI (ay hX))));have hsz:S≤w2.heap.size:=aI (ay hX2);clear hb hq hX hX2 hA hS;have h0:¬(0:Int)<0:=by omega
 go_wp2
 go_loop [3] (fun i=>i=.int .i64 0) (fun _=>0)
 case atStart=>exact rfl
 case round=>
  subst hrel
  go_wp2
  go_ret
  exact ⟨rfl,by rw[HS.out];exact HB2.out⟩
structure VVX (S:Nat) (num key val:ByteArray) (gk ck gv cv:Nat) (w W:World):Prop where
 bx:W.heap[S]? =some (.cells #[.int .i64 4,.bool false,.string num,.slice (some ⟨gk,0,none⟩) 1 ck,.slice (some ⟨gv,0,none⟩) 1 cv] 98 (0,0))
 k0:W.cell? ⟨gk,0,none⟩=some (.string key)
 v0:W.cell? ⟨gv,0,none⟩=some (.string val)
 lk:gk<W.heap.size
 lv:gv<W.heap.size
 bel:Below S w W
theorem VVX.far {S:Nat} {num key val:ByteArray} {gk ck gv cv:Nat} {w W W':World} (h:VVX S num key val gk ck gv cv w W) (hb:Below W.heap.size W W'):VVX S num key val gk ck gv cv w W':=
 ⟨(hb.block _ (ay h.bx)).trans h.bx,(hb.cell (p:=⟨gk,0,none⟩) h.lk).trans h.k0,(hb.cell (p:=⟨gv,0,none⟩) h.lv).trans h.v0,ap h.lk hb.size,ap h.lv hb.size,h.bel.trans (hb.mono (aI (ay h.bx)))⟩
theorem yj (num key val:ByteArray) (gk ck gv cv:Nat) (w:World) (hs:num.size≤1000) (h:iN num=true) (hsk:key.size≤1000) (hk:iN key=true) (hsv:val.size≤1000) (hv:iN val=true) (hne:(val.toList==num.toList)=false)
    (k0:w.cell? ⟨gk,0,none⟩=some (.string key)) (v0:w.cell? ⟨gv,0,none⟩=some (.string val)) (lk:gk<w.heap.size) (lv:gv<w.heap.size):
    Calls Tryz.prog 108 #[cX 4 false num (.slice (some ⟨gk,0,none⟩) 1 ck) (.slice (some ⟨gv,0,none⟩) 1 cv)] w fun e w'=>e=.returned (.bool true)∧Below w.heap.size w w':=by
 have hA:=aD w (.cells #[.int .i64 4,.bool false,.string num,.slice (some ⟨gk,0,none⟩) 1 ck,.slice (some ⟨gv,0,none⟩) 1 cv] 98);have hV0:VVX w.heap.size num key val gk ck gv cv w (w.alloc (.cells #[.int .i64 4,.bool false,.string num,.slice (some ⟨gk,0,none⟩) 1 ck,.slice (some ⟨gv,0,none⟩) 1 cv] 98)):=⟨heap_alloc_new w _,(hA.cell (p:=⟨gk,0,none⟩) lk).trans k0,(hA.cell (p:=⟨gv,0,none⟩) lv).trans v0,ap lk hA.size,ap lv hA.size,hA⟩
 have hq:=dm num (w.alloc (.cells #[.int .i64 4,.bool false,.string num,.slice (some ⟨gk,0,none⟩) 1 ck,.slice (some ⟨gv,0,none⟩) 1 cv] 98)) hs h;have hqk:=fun W:World=>dm key W hsk hk
 have hqv:=fun W:World=>dm val W hsv hv
 unfold cX;clear k0 v0 lk lv hA h hk hv
 go_enter Tryz.func108,Tryz.ntmps108
 go_wp2_with fail
 generalize w.alloc (.cells #[.int .i64 4,.bool false,.string num,.slice (some ⟨gk,0,none⟩) 1 ck,.slice (some ⟨gv,0,none⟩) 1 cv] 98)=w1 at *;generalize hS:w.heap.size=S at *;have HS:=hid hS;refine hq.mono ?_;rintro e w2 ⟨rfl,hb⟩;have HV:=hid (hV0.far hb);have d3:=ac HV.out.bx 3;have d4:=ac HV.out.bx 4;clear hb hq hS hV0;have h0:¬(1:Int)<1:=by omega
 go_wp2
 go_loopw [3] (fun i wr=>∃k:Nat,k≤1∧i=.int .i64 k∧VVX S num key val gk ck gv cv w wr) (fun i _=>1-(intOf i).toNat)
 case atStart=>exact ⟨0,aE _,rfl,HV.out⟩
 case round=>
  clear HV d3 d4;obtain ⟨k,hk,rfl,hX⟩:=hrel;have d3:=ac hX.bx 3;have HV:=hid hX;clear hX
  by_cases hk0:k=0
  · subst hk0
    go_upto_region 16 with fail
    refine aV [[],[0],[],[0,1,2],[0,1,2,3],[0,1,2,3,4],[0,1,2,3,4,5],[0,1,2,3,4,5,6],[0,1,2,3,4,5,6,7],[0,1,2,3,4,5,6,7,8],[0,1,2,3,4,5,6,7],[0,1,2,3,4,5,6,7,8,9,10],[0,1,2,3,4,5,6,7,8,9,10,11],[0,1,2,3,4,5,6,7,8,9,10,11,12],[0,1,2,3,4,5,6,7,8,9,10,11,12,13],[0,1,2,3,4,5,6,7,8,9,10,11,12,13,14],[0,1,2,3,4,5,6,7,8,9,10,11,12,13,14,15],[0,1,2,3,4,5,6,7,8,9,10,11,12,13,14,15,16],[0,1,2,3,4,5,6,7,8,9,10,11,12,13,14,15,16,17],[0,1,2,3,4,5,6,7,8,9,10,11,12,13,14,15,16],[0,1,2,3,4,5,6,7,8,9,10,11,12,13,14,15,16,17,18,19],[0,1,2,3,4,5,6,7,8,9,10,11,12,13,14,15,16,17,18,19,20],[0,1,2,3,4,5,6,7,8,9,10,11,12,13,14,15,16],[0,1,2,3,4,5,6,7,8,9,10,11,12,13,14,15,16,22],[0,1,2,3,4,5,6,7,8,9,10,11,12,13,14,15,16,17,18,19,20,21,22,23],[0,1,2,3,4,5,6,7,8,9,10,11,12,13,14,15,16,17,18,19,20,21,22,23,24],[0,1,2,3,4,5,6,7,8,9,10,11,12,13,14,15,16,17,18,19,20,21,22,23,24,25],[0,1,2,3,4,5,6,7,8,9,10,11,12,13,14,15,16,17,18,19,20,21,22,23,24,25,26],[0,1,2,3,4,5,6,7,8,9,10,11,12,13,14,15,16,17,18,19,20,21,22,23,24,25,26,27],[0,1,2,3,4,5,6,7,8,9,10,11,12,13,14,15,16,17,18,19,20,21,22,23,24,25,26,27,28],[0,1,2,3,4,5,6,7,8,9,10,11,12,13,14,15,16,17,18,19,20,21,22,23,24,25,26,27,28,29],[0,1,2,3,4,5,6,7,8,9,10,11,12,13,14,15,16,17,18,19,20,21,22,23,24,25,26,27,28,29,30],[0,1,2,3,4,5,6,7,8,9,10,11,12,13,14,15,16,17,18,19,20,21,22,23,24,25,26,27,28,29],[0,1,2,3,4,5,6,7,8,9,10,11,12,13,14,15,16,17,18,19,20,21,22,23,24,25,26,27,28,29,32],[0,1,2,3,4,5,6,7,8,9,10,11,12,13,14,15,16,17,18,19,20,21,22,23,24,25,26,27,28,29,30,31,32,33],[0,1,2,3,4,5,6,7,8,9,10,11,12,13,14,15,16,17,18,19,20,21,22,23,24,25,26,27,28,29,30,31,32,33,34],[0,1,2,3,4,5,6,7,8,9,10,11,12,13,14,15,16,17,18,19,20,21,22,23,24,25,26,27,28,29],[0,1,2,3,4,5,6,7,8,9,10,11,12,13,14,15,16,17,18,19,20,21,22,23,24,25,26,27,28,29,36],[0,1,2,3,4,5,6,7,8,9,10,11,12,13,14,15,16,17,18,19,20,21,22,23,24,25,26,27,28,29],[0,1,2,3,4,5,6,7,8,9,10,11,12,13,14,15,16,17,18,19,20,21,22,23,24,25,26,27,28,29,36,37,38],[0,1,2,3,4,5,6,7,8,9,10,11,12,13,14,15,16,17,18,19,20,21,22,23,24,25,26,27,28,29,36,37,38,39],[0,1,2,3,4,5,6,7,8,9,10,11,12,13,14,15,16,17,18,19,20,21,22,23,24,25,26,27,28,29,30,31,32,33,34,35,36,37,38,39,40],[0,1,2,3,4,5,6,7,8,9,10,11,12,13,14,15,16,17,18,19,20,21,22,23,24,25,26,27,28,29,30,31,32,33,34,35,36,37,38,39,40,41],[0,1,2,3,4,5,6,7,8,9,10,11,12,13,14,15,16,17,18,19,20,21,22,23,24,25,26,27,28,29,30,31,32,33,34,35,36,37,38,39,40,41,42],[0,1,2,3,4,5,6,7,8,9,10,11,12,13,14,15,16,17,18,19,20,21,22,23,24,25,26,27,28,29,30,31,32,33,34,35,36,37,38,39,40,41,42,43]] (fun W=>VVX S num key val gk ck gv cv w W) (fun _=>True) ?_
    iterate 5
     apply aR
     · intro x;go_simp;done
     · intro x W R hW hF hR;have c2:=ac hW.bx 2;have c3:=ac hW.bx 3;have c4:=ac hW.bx 4;have k0:=hW.k0;have v0:=hW.v0;clear hF;unfold aN
       go_simp
       simp only[aF];exact hR _ (ah _ _)
     simp only[Act.put,aa,aj,am]
    apply aR
    · intro x;go_simp;done
    · intro x W R hW hF hR;have c2:=ac hW.bx 2;have c3:=ac hW.bx 3;have c4:=ac hW.bx 4;have k0:=hW.k0;have v0:=hW.v0;clear hF;unfold aN
      go_simp
      simp only[aF];refine (hqk W).mono ?_;rintro e w4 ⟨rfl,hb4⟩;exact ⟨_,rfl,hR _ hb4⟩
    simp only[Act.put,aa,aj,am]
    iterate 7
     apply aR
     · intro x;go_simp;done
     · intro x W R hW hF hR;have c2:=ac hW.bx 2;have c3:=ac hW.bx 3;have c4:=ac hW.bx 4;have k0:=hW.k0;have v0:=hW.v0;clear hF;unfold aN
       go_simp
       simp only[aF];exact hR _ (ah _ _)
     simp only[Act.put,aa,aj,am]
    apply aR
    · intro x;go_simp;done
    · intro x W R hW hF hR;have c2:=ac hW.bx 2;have c3:=ac hW.bx 3;have c4:=ac hW.bx 4;have k0:=hW.k0;have v0:=hW.v0;clear hF;unfold aN
      go_simp
      simp only[aF];refine (hqv W).mono ?_;rintro e w4 ⟨rfl,hb4⟩;exact ⟨_,rfl,hR _ hb4⟩
    simp only[Act.put,aa,aj,am]
    iterate 16
     apply aR
     · intro x;go_simp;done
     · intro x W R hW hF hR;have c2:=ac hW.bx 2;have c3:=ac hW.bx 3;have c4:=ac hW.bx 4;have k0:=hW.k0;have v0:=hW.v0;clear hF;unfold aN
       go_simp
       simp only[aF];exact hR _ (ah _ _)
     simp only[Act.put,aa,aj,am]
    iterate 13
     refine uX (fun x=>by go_simp;done) ?_;simp only[Act.put,aa,aj,am]
    iterate 2
     apply aR
     · intro x;go_simp;done
     · intro x W R hW hF hR;have c2:=ac hW.bx 2;have c3:=ac hW.bx 3;have c4:=ac hW.bx 4;have k0:=hW.k0;have v0:=hW.v0;clear hF;unfold aN
       go_simp
       simp only[aF];exact hR _ (ah _ _)
     simp only[Act.put,aa,aj,am]
    refine cz (by kernel_rfl) (by kernel_rfl) (by kernel_rfl) (fun _ _ h hb=>h.far hb) (fun _ _ _ _=>trivial) (fun _ _=>trivial) (HV.out.far (ah _ _).drew) ?_;intro x W hE hW hF hD;clear hD;replace hW:=hW rfl;have HV2:=hid hW;clear hW hF
    go_wp2
    go_roundw
    case rel=>exact ⟨1,by omega,by go_num,HV2.out⟩
    case measure=>simp[intOf]
  · obtain rfl:k=1:=by omega
    go_wp2
    go_ret
    exact ⟨rfl,by rw[HS.out];exact HV.out.bel⟩
end
end Go.Proofs.YtapdbeaoakcjeaaGreatDoor.Se

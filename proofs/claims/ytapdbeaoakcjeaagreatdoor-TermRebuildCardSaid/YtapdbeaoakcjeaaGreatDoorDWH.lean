/- The reference's test that names are used in one way. -/
import Derived.Test.YtapdbeaoakcjeaaGreatDoorDWF
set_option maxRecDepth 100000
set_option maxHeartbeats 40000000
open Go.Lib (hid)
namespace Go.Proofs.YtapdbeaoakcjeaaGreatDoor.Se
open Go.RowKit Nmx
theorem sD:(Tryz.prog.info? 46).map (fun i=>(i.zero,i.size,i.bytes))=some (some (.agg #[.string ⟨#[]⟩,.int .i64 0]),2,24):=by kernel_rfl
def vrs (U:List (ByteArray×Int)):List Value:=U.flatMap fun p=>[.string p.1,.int .i64 p.2]
theorem sE (U V:List (ByteArray×Int)):vrs (U++V)=vrs U++vrs V:=by simp[vrs]
theorem oH:∀(U:List (ByteArray×Int)) (j:Nat) (p:ByteArray×Int),U[j]? =some p→(vrs U)[j*2]? =some (.string p.1)∧(vrs U)[j*2+1]? =some (.int .i64 p.2):=by
 intro U
 induction U with
 | nil=>intro j p h;cases h
 | cons a U ih=>
   intro j p h;have e:vrs (a::U)=.string a.1::.int .i64 a.2::vrs U:=rfl;cases j with
   | zero=>rw[List.getElem?_cons_zero] at h;cases h;exact ⟨rfl,rfl⟩
   | succ j=>
     rw[List.getElem?_cons_succ] at h;have:=ih j p h;rw[e,show (j+1)*2=j*2+2 by omega];exact this
structure UV1 (B g i:Nat) (op sort:Int) (name:ByteArray) (w:World) (v:Value) (U:List (ByteArray×Int)) (W:World):Prop where
 c0:W.cell? ⟨g,i*5,none⟩=some (.int .i64 op)
 c1:W.cell? ⟨g,i*5+1,none⟩=some (.int .i64 sort)
 c2:W.cell? ⟨g,i*5+2,none⟩=some (.string name)
 lt:g<B
 hs:B≤W.heap.size
 bel:Below B w W
 row:W.ownsRow B 46 2 v U.length (vrs U)
theorem UV1.far {B g i:Nat} {op sort:Int} {name:ByteArray} {w:World} {v:Value} {U:List (ByteArray×Int)} {W W':World} (h:UV1 B g i op sort name w v U W) (hb:Below W.heap.size W W'):UV1 B g i op sort name w v U W':=
 have hl:=am h.lt h.hs
 ⟨(hb.cell (p:=⟨g,i*5,none⟩) hl).trans h.c0,(hb.cell (p:=⟨g,i*5+1,none⟩) hl).trans h.c1,(hb.cell (p:=⟨g,i*5+2,none⟩) hl).trans h.c2,h.lt,aA h.hs hb.size,h.bel.trans (hb.mono h.hs),m6 h.row hb (af _)⟩
theorem UV1.drew {B g i:Nat} {op sort:Int} {name:ByteArray} {w:World} {v:Value} {U:List (ByteArray×Int)} {W:World} (h:UV1 B g i op sort name w v U W):UV1 B g i op sort name w v U W.drew:=
 ⟨h.c0,h.c1,h.c2,h.lt,h.hs,aQ h.bel 1,h.row⟩
theorem UV1.drewN {B g i:Nat} {op sort:Int} {name:ByteArray} {w:World} {v:Value} {U:List (ByteArray×Int)} {W:World} (h:UV1 B g i op sort name w v U W) (n:Nat):UV1 B g i op sort name w v U (W.drewN n):=
 ⟨h.c0,h.c1,h.c2,h.lt,h.hs,aQ h.bel n,h.row⟩
theorem UV1.grow {B g i:Nat} {op sort:Int} {name:ByteArray} {w:World} {v v':Value} {U U':List (ByteArray×Int)} {W W':World} (h:UV1 B g i op sort name w v U W) (hg:W.grownBy W' v.ownBlock) (hr:W'.ownsRow B 46 2 v' U'.length (vrs U')):UV1 B g i op sort name w v' U' W':=by
 have hl:=am h.lt h.hs
 have hne:∀j,W'.cell? ⟨g,j,none⟩=W.cell? ⟨g,j,none⟩:=fun j=>by
  rw[World.cell?,World.cell?,hg.block g hl (fun e=>by have:=(h.row.lt g e.symm).1;have:=h.lt;omega)]
 exact ⟨(hne _).trans h.c0,(hne _).trans h.c1,(hne _).trans h.c2,h.lt,aA h.hs hg.size,h.bel.grown hg h.hs (fun k e=>(h.row.lt k e).1),hr⟩
section
theorem rK (V:List (ByteArray×Int)) (T:List Nd) (g cap:Nat) (w:World) (hN:NodesAt w g T) (hg:g<w.heap.size) (hT:T.length≤1000000) (hV:Nm V T):
    Calls Tryz.prog 53 #[.slice (some ⟨g,0,none⟩) T.length cap] w fun e w'=>e=.returned (.bool true)∧Below w.heap.size w w':=by
 obtain ⟨i0,hi,hz0,hz1,hz2⟩:=info_parts sD;have HN:=hid hN;have HV:=hid hV;obtain ⟨n,hnn⟩:∃n,T.length=n:=⟨_,rfl⟩
 have HNN:=hid hnn;rw[hnn] at hT ⊢;clear hN hV hnn;generalize hB:w.heap.size=B at *;have HBe:=hid hB
 go_enter Tryz.func53,Tryz.ntmps53
 go_wp2
 go_loopw [3,4,5] (fun v f i wr=>∃(k:Nat) (U:List (ByteArray×Int)),k≤n∧f=.slice none 0 0∧i=.int .i64 k∧U.length≤k∧(∀p∈U,bp p.1 V=some p.2)∧wr.ownsRow B 46 2 v U.length (vrs U)∧Below B w wr) (fun _ _ i _=>n-(intOf i).toNat)
 case atStart=>exact ⟨0,[],aF _,rfl,rfl,aF _,(fun p h=>by cases h),World.ownsRow_nil _ _ _ _,ag _ _⟩
 case round=>
  obtain ⟨k,U,hk,rfl,rfl,hUk,hU,hrow,hbel⟩:=hrel;have HU:=hid hU;have hbs:B≤wr.heap.size:=aA (by omega) hbel.size
  by_cases hlt:k<n
  · have hltI:(k:Int)<(n:Int):=by omega
    have hkT:k<T.length:=by rw[HNN.out];exact hlt
    have hx:T[k]? =some T[k]:=ap hkT;have hnm:=HV.out T[k] (List.getElem_mem hkT);have hNw:=HN.out.below hbel hg;have d0:=hNw k T[k] hx 0 (by decide);have d1:=hNw k T[k] hx 1 (by decide);have d2:=hNw k T[k] hx 2 (by decide);generalize T[k]=x at *;obtain ⟨op,sort,name,num,kids⟩:=x;have HX:Hid (UV1 B g k op sort name w u3 U wr):=hid ⟨d0,d1,d2,hg,hbs,hbel,hrow⟩;simp only at hnm;have c0:wr.cell? ⟨g,k*5,none⟩=some (.int .i64 op):=d0;clear hU hrow hbel hNw hx d0 d1 d2
    by_cases h4:op=4
    · subst h4;have hlk:=hnm.2 rfl;have HLK:=hid hlk;clear hnm hlk
      go_wp2
      go_loopw [6,7] (fun b j wr=>∃(bb:Bool) (q:Nat),b=.bool bb∧j=.int .i64 q∧q≤U.length∧UV1 B g k 4 sort name w u3 U wr) (fun _ j _=>U.length-(intOf j).toNat)
      case atStart=>exact ⟨false,0,rfl,rfl,aF _,HX.out⟩
      case round=>
       clear HX;obtain ⟨bb,q,rfl,rfl,hq,hX⟩:=hrel;have HX:=hid hX;obtain ⟨gv0,cv0,hv0⟩:=bO hX.row
       by_cases hql:q<U.length
       · obtain ⟨gv,cv,rfl,-,-,-⟩:=aZ hX.row (by omega);obtain ⟨hn1,hn2⟩:=oH U q U[q] (ap hql);have e1:_root_.Go.World.cell? wr ⟨gv,q*2,none⟩=_:=(hX.row.cellAt (q*2) (by omega)).trans hn1;have e2:_root_.Go.World.cell? wr ⟨gv,q*2+1,none⟩=_:=(hX.row.cellAt (q*2+1) (by omega)).trans hn2;have hlu:=HU.out U[q] (List.getElem_mem hql);have hc1:=hX.c1;have hc2:=hX.c2;generalize U[q]=pq at *;obtain ⟨kq,sq⟩:=pq;simp only at e1 e2 hlu;obtain ⟨ul,hul⟩:∃ul,U.length=ul:=⟨_,rfl⟩
         have hqI:(q:Int)<(ul:Int):=by omega
         clear hX hn1 hn2 hv0
         by_cases hkn:kq=name
         · subst hkn;have hss:sq=sort:=by rw[HLK.out] at hlu;exact (aH hlu).symm
           subst hss;clear hlu;have hul':ul≤n:=by omega
           rw[hul] at hq HX ⊢;have HUL:=hid hul;clear hul
           go_wp2
           go_quiet (fail)
           rename_i nq
           go_wp2
           go_quiet (fail)
           rename_i nq2
           go_wp2
           go_roundw
           case rel=>exact ⟨true,q+1,rfl,by go_num,by omega,HX.out.drewN _⟩
           case measure=>simp[intOf];omega
         · have hkf:(kq.toList==name.toList)=false:=by rw[beq_eq_false_iff_ne];exact fun e=>hkn ((pP e).trans (pP rfl).symm)
           clear hlu;have hul':ul≤n:=by omega
           rw[hul] at hq HX ⊢;have HUL:=hid hul;clear hul
           go_wp2
           go_quiet (fail)
           rename_i nq
           go_wp2
           go_roundw
           case rel=>exact ⟨bb,q+1,rfl,by go_num,by omega,HX.out.drewN _⟩
           case measure=>simp[intOf];omega
       · subst hv0;have hqe:(U.length:Int)≤(q:Int):=by omega
         cases bb
         · have HAA:Hid (∀p∈U++[(name,sort)],bp p.1 V=some p.2):=hid (fun p hp=>by
             rcases List.mem_append.1 hp with hp | hp
             · exact HU.out p hp
             · rw[List.mem_singleton] at hp;subst hp;exact HLK.out)
           obtain ⟨ul,hul⟩:∃ul,U.length=ul:=⟨_,rfl⟩
           rw[hul] at hq hql hqe HX hUk ⊢;have HUL:=hid hul;clear hX hul
           go_wp2
           refine aR [[],[],[],[1,2],[1,2,3],[1,2,3,4],[],[],[6,7],[6,7,8],[6,7,8,9],[1,2,3,4,5,6,7,8,9,10],[1,2,3,4,5,6,7,8,9,10,11],[0,1,2,3,4,5,6,7,8,9,10,11,12],[0,1,2,3,4,5,6,7,8,9,10,11,12,13]] (fun W=>UV1 B g k 4 sort name w (.slice gv0 ul cv0) U W) (fun _=>True) ?_
           iterate 12
            apply aN
            · intro x;go_simp;done
            · intro x W R hW hF hR;have hc1:=hW.c1;have hc2:=hW.c2;clear hF;unfold aK
              go_simp
              simp only[aC];exact hR _ (ag _ _)
            simp only[Act.put,aa,ah,aj]
           refine cV (fun u W=>∃B,u=.slice (some ⟨B,0,none⟩) 1 1∧W.heap[B]? =some (.cells #[.string name,.int .i64 sort] 46 (0,0))) (fun _ _ _ h hb=>let ⟨B,h1,h2⟩:=h;⟨B,h1,(hb.block _ (aw h2)).trans h2⟩) ?_ ?_ ?_
           · intro x;go_simp;done
           · intro x W R hW hF hR;clear hF;unfold aK
             go_simp
             simp only[aC];exact hR _ _ ⟨W.heap.size,rfl,heap_alloc_new W _⟩ (aD W _)
           simp only[Act.put,aa,ah,aj,aq,aE,Nat.zero_add,Nat.reduceAdd];refine fD (fun x W=>UV1 B g k 4 sort name w (x 13) (U++[(name,sort)]) W) (fun _ _ _ h hb=>h.far hb) (fun x x' w h hT=>by have e:=h 13 (.inl rfl);rw[e] at hT;exact hT) ?_ ?_ ?_
           · intro x;go_simp;done
           · intro x W R hW hF hD hR;obtain ⟨B2,hx2,hB2⟩:=hF.1.2 rfl rfl rfl;clear hF;simp only[hx2];have hrw:=hW.row;rw[HUL.out] at hrw;refine dF (.tmp 56) (.tmp 68) 47 rfl B 46 i0 _ 2 24 Tryz.underlying47 hi hz0 hz1 hz2 rfl (by decide) (.slice gv0 ul cv0) ul (vrs U) rfl hrw ⟨B2,0,none⟩ 1 1 [.string name,.int .i64 sort] rfl rfl (World.news_of_block (cs:=#[.string name,.int .i64 sort]) (t:=46) (fr:=(0,0)) hB2) (by simp[Value.oneCell']) (by unfold maxLen;omega) (by omega) hW.hs ?_;intro v' w' hrow hg;refine hR _ _ ?_ trivial hg.size;show UV1 B g k 4 sort name w (bJ x 13 v' 13) (U++[(name,sort)]) w';rw[bl];refine hW.grow hg ?_;rw[ay,HUL.out,sE];exact hrow
           simp only[Act.put,aa,ah,aj,aq,aE,Nat.zero_add,Nat.reduceAdd];refine ep (fun x=>x 14=x 13) (fun x x' hx h=>by rw[←hx 14 (.inl rfl),←hx 13 (.inr (List.contains_iff_mem.1 rfl))];exact h) ?_ ?_ ?_
           · intro x;go_simp;done
           · intro x W R hW hF hR;clear hF hW;unfold aK
             go_simp
             simp only[aC];refine hR _ _ ?_ (ag _ _);show bJ x 14 _ 14=bJ x 14 _ 13;rw[bl,bA (i:=14) (j:=13) _ _ (by decide)]
           simp only[Act.put,aa,ah,aj,aq,aE,Nat.zero_add,Nat.reduceAdd];refine bS (by kernel_rfl) (by kernel_rfl) (by kernel_rfl) (fun _ _ h hb=>h.far hb) (fun _ _ _ _=>trivial) (fun _ _=>trivial) (HX.out.far (ag _ _).drew) ?_;intro x W hE hW hF hD;clear hD;have hY:=hF.2.1.2 rfl;have hx14:=hF.1.1;simp only[AK.free] at hx14;simp only[AK.fact] at hY;clear hF hW;simp only[hx14];generalize x 13=v13 at *
           go_wp2
           go_roundw
           case rel=>exact ⟨k+1,U++[(name,sort)],by omega,rfl,by go_num,by rw[ay,HUL.out];simp;omega,HAA.out,hY.row,hY.bel⟩
           case measure=>simp[intOf];omega
         · go_wp2
           go_roundw
           case rel=>exact ⟨k+1,U,by omega,rfl,by go_num,by omega,HU.out,HX.out.row,HX.out.bel⟩
           case measure=>simp[intOf];omega
    · have h4f:(op==4)=false:=by simp[h4]
      have h5f:(op==5)=false:=by simp[hnm.1]
      have h5:=hnm.1;clear hnm
      go_wp2
      go_roundw
      case rel=>exact ⟨k+1,U,by omega,rfl,by go_num,by omega,HU.out,HX.out.row,HX.out.bel⟩
      case measure=>simp[intOf];omega
  · obtain ⟨av,cv,rfl⟩:=bO hrow;have HBL:=hid hbel;obtain ⟨ul,hul⟩:∃ul,U.length=ul:=⟨_,rfl⟩
    rw[hul] at hUk hrow ⊢;have hul2:ul≤n:=by omega
    clear hU hrow hbel hul HU
    go_wp2
    go_loop [11] (fun i=>∃q:Nat,q≤ul∧i=.int .i64 q) (fun i=>ul-(intOf i).toNat)
    case atStart=>exact ⟨0,aF _,rfl⟩
    case round=>
     obtain ⟨q,hq,rfl⟩:=hrel
     by_cases hql:q<ul
     · have hqlI:(q:Int)<(ul:Int):=by omega
       go_wp2
       go_loop [12] (fun i=>i=.int .i64 0) (fun i=>0)
       case atStart=>exact rfl
       case round=>
        subst hrel
        go_wp2
        go_round
        case rel=>exact ⟨q+1,by omega,by go_num⟩
        case measure=>simp[intOf];omega
     · go_wp2
       go_ret
       exact ⟨rfl,HBL.out⟩
end
end Go.Proofs.YtapdbeaoakcjeaaGreatDoor.Se
/- The reference's SortOf, ValidTerm, Join, Num1, Bool1. -/
namespace Go.Proofs.YtapdbeaoakcjeaaGreatDoor.Se
open Go.RowKit Nmx
section
theorem jE (V:List (ByteArray×Int)) (d:Nat) (T:List Nd) (s:Int) (g cap:Nat) (w:World) (hw:WT d T s) (hd:d≤257) (hl:T.length≤20000) (hV:Nm V T) (hsz:∀y∈T,y.num.size≤1000) (hN:NodesAt w g T) (hg:g<w.heap.size):
    Calls Tryz.prog 29 #[.slice (some ⟨g,0,none⟩) T.length cap] w fun e w'=>e=.returned (.int .i64 s)∧Below w.heap.size w w':=by
 obtain ⟨E,S,hwe⟩:=hw;have hs1:=(hwe.sorts s (by simp)).1;have hwe0:=hwe;obtain ⟨d',x,ks,ss,rest',Ek,Sk,Er,Sr,rfl,rfl,hk,hno,hr⟩:=hwe.step;obtain rfl:rest'=[]:=by cases hr;rfl
 rw[List.append_nil] at hl hV hsz hN ⊢;have hlen:(x::ks).length=0+1+ks.length:=by rw[aq];omega
 have ht:=xD d' (x::ks) g cap 0 x ks ss s Ek Sk 0 w hk hno (fun i hi=>by simp) (by omega) hsz (by omega) (by omega) hN hg;rw[←hlen] at ht;have HU:Hid (∀w',Below w.heap.size w w'→Calls Tryz.prog 53 #[.slice (some ⟨g,0,none⟩) (x::ks).length cap] w' fun e w''=>e=.returned (.bool true)∧Below w'.heap.size w' w''):=hid fun w' hb=>rK V (x::ks) g cap w' (hN.below hb hg) (am hg hb.size) (by omega) hV
 generalize (x::ks).length=n at *;have hn0:¬(20000:Int)<(n:Int):=by omega
 have hs0:¬s=0:=by omega
 have hse:(s==0)=false:=by simp[hs0]
 clear hwe hwe0 hk hno hr hN hV hsz hlen
 go_enter Tryz.func29,Tryz.ntmps29
 go_wp2_with fail
 refine ht.mono ?_;rintro e w1 ⟨rfl,hb1⟩;have hu:=HU.out w1 hb1;have HB:=hid hb1;clear ht hb1
 go_wp2_with fail
 refine hu.mono ?_;rintro e w2 ⟨rfl,hb2⟩;have HB2:=hid (HB.out.trans (hb2.mono HB.out.size));clear hb2 hu
 go_wp2
 go_ret
 exact ⟨rfl,HB2.out⟩
theorem kQ (V:List (ByteArray×Int)) (d:Nat) (T:List Nd) (s:Int) (g cap:Nat) (w:World) (hw:WT d T s) (hd:d≤257) (hl:T.length≤20000) (hV:Nm V T) (hsz:∀y∈T,y.num.size≤1000) (hN:NodesAt w g T) (hg:g<w.heap.size):
    Calls Tryz.prog 47 #[.slice (some ⟨g,0,none⟩) T.length cap] w fun e w'=>e=.returned (.bool true)∧Below w.heap.size w w':=by
 have h:=jE V d T s g cap w hw hd hl hV hsz hN hg;obtain ⟨E,S,hwe⟩:=hw;have hs1:=(hwe.sorts s (by simp)).1;have hs0:(0:Int)<s:=by omega
 clear hwe hN hV hsz;generalize T.length=n at *
 go_enter Tryz.func47,Tryz.ntmps47
 go_wp2_with fail
 refine h.mono ?_;rintro e w1 ⟨rfl,hb1⟩;have HB:=hid hb1;clear h hb1
 go_wp2
 go_ret
 exact ⟨rfl,HB.out⟩
def OnePost (x:Nd) (w:World) (e:Ending) (w':World):Prop:=∃g,e=.returned (.slice (some ⟨g,0,none⟩) 1 1)∧NodesAt w' g [x]∧g<w'.heap.size∧w.heap.size≤g∧Below w.heap.size w w'
theorem OnePost.of (x:Nd) (w:World):OnePost x w (.returned (.slice (some ⟨w.heap.size,0,none⟩) 1 1)) (w.alloc (.cells #[.int .i64 x.op,.int .i64 x.sort,.string x.name,.string x.num,.int .i64 x.kids] 34)):=by
 refine ⟨_,rfl,?_,by simp,af _,aD w _⟩;refine eZ fun j hj=>?_
 rw[World.cell?_alloc_at _ _ _ _ rfl];obtain ⟨op,sort,name,num,kids⟩:=x;show (#[Value.int .i64 op,.int .i64 sort,.string name,.string num,.int .i64 kids]:Array Value)[j]? =[Value.int .i64 op,.int .i64 sort,.string name,.string num,.int .i64 kids][j]?;rw[List.getElem?_toArray]
theorem du (sort:Int) (num:ByteArray) (w:World):Calls Tryz.prog 31 #[.int .i64 sort,.string num] w (OnePost ⟨3,sort,⟨#[]⟩,num,0⟩ w):=by
 have HO:=hid (OnePost.of ⟨3,sort,⟨#[]⟩,num,0⟩ w)
 go_enter Tryz.func31,Tryz.ntmps31
 go_wp2
 go_ret
 exact HO.out
theorem j8 (b:Bool) (w:World):Calls Tryz.prog 109 #[.bool b] w (OnePost ⟨if b then 1 else 2,0,⟨#[]⟩,⟨#[]⟩,0⟩ w):=by
 cases b
 · have HO:=hid (OnePost.of ⟨2,0,⟨#[]⟩,⟨#[]⟩,0⟩ w)
   go_enter Tryz.func109,Tryz.ntmps109
   go_wp2
   go_ret
   exact HO.out
 · have HO:=hid (OnePost.of ⟨1,0,⟨#[]⟩,⟨#[]⟩,0⟩ w)
   go_enter Tryz.func109,Tryz.ntmps109
   go_wp2
   go_ret
   exact HO.out
def qh (w:World) (x:Nd) (L:List (List Nd)) (e:Ending) (w':World):Prop:=
 ∃g c,e=.returned (.slice (some ⟨g,0,none⟩) (1+L.flatten.length) (1+L.flatten.length+c))∧NodesAt w' g ({ x with kids:=L.length }::L.flatten)∧g<w'.heap.size∧w.heap.size≤g∧Below w.heap.size w w'
theorem xE {w:World} {b g n cap z:Nat} {t:TypeId} {xs:List Value} (h:w.ownsRow b t z (.slice (some ⟨g,0,none⟩) n cap) n xs):n≤cap:=by
 obtain ⟨_,h | ⟨_,_,_,hv,_,_,hle,_⟩⟩:=h
 · cases h.1
 · injection hv with _ _ e3;omega
theorem jF (x:Nd) (ak:Option Addr) (gk ck:Nat) (L:List (List Nd)) (w:World) (hk:Kds w ak gk L) (hs:L.flatten.length≤1000000) (hmx:L.length≤1000000):
    Calls Tryz.prog 30 #[x.val,.slice ak L.length ck] w (qh w x L):=by
 obtain ⟨i0,hi,hz0,hz1,hz2⟩:=info_parts jC;obtain ⟨op,sort,name,num,kids⟩:=x;have HK:=hid hk
 have hmono:∀j,(L.take j).flatten.length≤L.flatten.length:=fun j=>by
  have:=congrArg List.length (congrArg List.flatten (List.take_append_drop j L));rw[List.flatten_append,ay] at this;omega
 have HMO:=hid hmono;obtain ⟨j,hm⟩:∃j,L.length=j:=⟨_,rfl⟩
 have HL:=hid hm;unfold Nd.val;rw[hm];rw[hm] at hmx;have HN2:Hid (NDB w.heap.size w ⟨op,sort,name,num,kids⟩ j (w.alloc (.cells #[.int .i64 op,.int .i64 sort,.string name,.string num,.int .i64 j] 34))):=hid ⟨heap_alloc_new w _,aD w _⟩;have HN3:=hid (HN2.out.far (aD (w.alloc (.cells #[.int .i64 op,.int .i64 sort,.string name,.string num,.int .i64 j] 34)) (.cells #[.int .i64 op,.int .i64 sort,.string name,.string num,.int .i64 j] 34)));have hsz:(w.alloc (.cells #[.int .i64 op,.int .i64 sort,.string name,.string num,.int .i64 j] 34)).heap.size=w.heap.size+1:=by simp
 have hown:=World.ownsRow_lit (base:=w.heap.size+1) (e:=34) (size:=5) (w.alloc (.cells #[.int .i64 op,.int .i64 sort,.string name,.string num,.int .i64 j] 34)) #[.int .i64 op,.int .i64 sort,.string name,.string num,.int .i64 j] 1 (by omega) (by decide) rfl;rw[hsz] at hown;have HR3:Hid (((w.alloc (.cells #[.int .i64 op,.int .i64 sort,.string name,.string num,.int .i64 j] 34)).alloc (.cells #[.int .i64 op,.int .i64 sort,.string name,.string num,.int .i64 j] 34)).ownsRow (w.heap.size+1) 34 5 (.slice (some ⟨w.heap.size+1,0,none⟩) 1 1) 1 (br [⟨op,sort,name,num,(j:Int)⟩])):=hid hown;have hSS1:w.heap.size<w.heap.size+1:=by omega
 clear hk hm hmono hown hsz HN2
 go_enter Tryz.func30,Tryz.ntmps30
 go_wp2
 go_loopw [5,6] (fun v i wr=>∃(k B c:Nat),k≤j∧i=.int .i64 k∧v=.slice (some ⟨B,0,none⟩) (1+(L.take k).flatten.length) c∧w.heap.size<B∧NDB w.heap.size w ⟨op,sort,name,num,kids⟩ j wr∧wr.ownsRow (w.heap.size+1) 34 5 v (1+(L.take k).flatten.length) (br (⟨op,sort,name,num,(j:Int)⟩::(L.take k).flatten))) (fun _ i _=>j-(intOf i).toNat)
 case atStart=>exact ⟨0,_,1,aF _,rfl,rfl,hSS1,HN3.out,HR3.out⟩
 case round=>
  clear HN3 HR3 hSS1;obtain ⟨k,B,c,hk,rfl,rfl,hSB,hnd,hrow⟩:=hrel;generalize hSS:w.heap.size=S at *;have HS:=hid hSS;have HN4:=hid hnd;have HR4:=hid hrow;clear hnd hrow hSS;have hk0:(0:Int)≤(k:Int):=by omega
  by_cases hlt2:k<j
  · have hlt3:(k:Int)<(j:Int):=by omega
    have hl:k<L.length:=by rw[HL.out];exact hlt2
    obtain rfl:=HK.out.1 (by omega);have hKK:=HK.out.far (show Below w.heap.size w wr by rw[HS.out];exact HN4.out.bel);obtain ⟨g,c1,cc,hN,hgl⟩:=hKK.2.2 k L[k] (ap hl);have hnx:1+(L.take (k+1)).flatten.length=(1+(L.take k).flatten.length)+L[k].length:=by rw[eE hl,ay];omega
    have hnf:br (⟨op,sort,name,num,(j:Int)⟩::(L.take (k+1)).flatten)=br (⟨op,sort,name,num,(j:Int)⟩::(L.take k).flatten)++br L[k]:=by rw[eE hl,←List.cons_append,ny]
    have hle:=HMO.out (k+1);have h1:1+(L.take k).flatten.length+L[k].length≤1000001:=by omega
    have HNF:=hid hnf;have HNX:=hid hnx;have HNN:=hid (gn hN);have HFL:Hid ((br L[k]).length=L[k].length*5):=hid (d5 _);have HON:=hid (mc L[k]);have hSw:=aw HN4.out.bx;have hs1:1≤1+(L.take k).flatten.length:=by omega
    clear hle hnx hnf hN;generalize br (⟨op,sort,name,num,(j:Int)⟩::(L.take k).flatten)=fl0 at *;generalize br L[k]=fl1 at *;generalize 1+(L.take k).flatten.length=s0 at *;generalize L[k].length=ln at *
    go_wp2_with (at_builtin;go_loud (refine wpList_append_own _ rfl _ _ 22 rfl (S+1) 34 i0 _ 5 56 Tryz.underlying22 hi hz0 hz1 hz2 rfl (by decide) (.slice (some ⟨B,0,none⟩) s0 c) s0 fl0 rfl HR4.out ⟨g,0,none⟩ ln c1 fl1 rfl HFL.out (fun q u hq=>by rw[rB];exact HNN.out q u hq) HON.out (by unfold maxLen;omega) (by omega) (by omega) ?_))
    intro v' w4 hrow hg hnil0
    obtain ⟨B',c',hv',hB'⟩:∃B' c',v'=.slice (some ⟨B',0,none⟩) (s0+ln) c'∧S<B':=by
     obtain ⟨_,h1 | ⟨g,cap,cur,hv,_⟩⟩:=id hrow
     · exact absurd h1.2 (by omega)
     · exact ⟨g,cap,hv,by have:=(hrow.lt g (by rw[hv];rfl)).1;omega⟩
    subst hv';have HN5:=hid (HN4.out.grow hg (fun k e=>by have e':B=k:=aH e;omega));have HR5:=hid hrow;clear hrow hg HR4 HN4 cc
    go_wp2_with fail
    go_roundw
    case rel=>exact ⟨k+1,B',c',by omega,by go_num,by rw[HNX.out],hB',HN5.out,by rw[HNX.out,HNF.out];exact HR5.out⟩
    case measure=>simp[intOf];omega
  · obtain rfl:k=j:=by omega
    have hall:(L.take k).flatten=L.flatten:=by rw[aI (by rw[HL.out];omega)]
    rw[hall] at HR4 ⊢
    have HFIN:Hid (qh w ⟨op,sort,name,num,kids⟩ L (.returned (.slice (some ⟨B,0,none⟩) (1+L.flatten.length) c)) wr):=hid (by
     have hrow:=HR4.out;obtain ⟨c',hc'⟩:∃c',c=1+L.flatten.length+c':=⟨c-(1+L.flatten.length),by have:=xE hrow;omega⟩
     refine ⟨B,c',by rw[←hc'],eZ (fun q hq=>?_),(hrow.lt B rfl).2,by rw[HS.out];omega,by rw[HS.out];exact HN4.out.bel⟩;have hq':q<(1+L.flatten.length)*5:=by simp only[aq] at hq;omega
     rw[hrow.cellAt q hq'];show (br (⟨op,sort,name,num,(k:Int)⟩::L.flatten))[q]? =(br (⟨op,sort,name,num,(L.length:Int)⟩::L.flatten))[q]?
     rw[HL.out])
    clear HR4 HN4
    go_wp2
    go_ret
    exact HFIN.out
end
end Go.Proofs.YtapdbeaoakcjeaaGreatDoor.Se

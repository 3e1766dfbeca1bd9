import Derived.Test.YtpkfnnkbfphfbaaGreatDoorHEC
import Derived.Test.YtpkfnnkbfphfbaaGreatDoorHWH
import Derived.Shelf.Spec.SlicesInsertGrow
set_option maxRecDepth 100000
set_option maxHeartbeats 40000000
namespace Go.Proofs.YtpkfnnkbfphfbaaGreatDoor.Se
open Go.RowKit Nmx Go.Proofs.Tryz
theorem fZ {z:Int} (hz:Sm z) (W:World):Calls prog 43 #[.string (TI z)] W fun e w'=>e=.returned (.bool true)∧Below W.heap.size W w':=by
 have:=vY hz.ds (by decide) W;rw[Rat.den_intCast] at this;exact this
theorem oM {x y:Int} (hx:Sm x) (hy:Sm y) (W:World) {r:Int} (hr:cI x y=r):Calls prog 44 #[.string (TI x),.string (TI y)] W fun e w'=>e=.returned (.int .i64 r)∧Below W.heap.size W w':=by
 have:=zD hx.ds hy.ds (by decide) (by decide) W;rw[ri] at this;subst hr;exact this
theorem ij {d:Int} {l:Arx.L} {k u:Value} (w:World) (h:AR w d l k u):
    Calls prog 26 #[bh 4 false (TI d) k u] w fun e w'=>e=.returned (.bool true)∧Below w.heap.size w w':=by
 obtain ⟨a,c,a',c',rfl,rfl⟩:=h.form;have hln:=h.ln;have hid:=fun (W:World) (hW:Below w.heap.size w W)=>fZ h.sd W
 have HII:=Lib.hid (fun (i:Nat) (hi:i<l.length) (W:World) (hW:Below w.heap.size w W)=>And.intro (fZ (h.sl _ (List.getElem_mem hi)).1 W) (fZ (h.sl _ (List.getElem_mem hi)).2 W));have HCM:=Lib.hid (fun (j:Nat) (hj:j+1<l.length) (W:World) (hW:Below w.heap.size w W)=>oM (r:= -1) (h.sl _ (List.getElem_mem (show j<l.length by omega))).1 (h.sl _ (List.getElem_mem hj)).1 W (by unfold cI;rw[aF (h.vd.lt hj)]));have HNE:=Lib.hid (fun (i:Nat) (hi:i<l.length)=>(show ((TI l[i].2).toList==(TI d).toList)=false by rw[lW];exact aD (h.vd.ne _ (List.getElem_mem hi))));have HH:=Lib.hid h;obtain ⟨n,hn⟩:∃n,l.length=n:=⟨_,rfl⟩
 rw[hn] at hln;have HN:=Lib.hid hn;unfold bh;rw[hn];obtain ⟨td,htd⟩:∃td,TI d=td:=⟨_,rfl⟩
 rw[htd] at hid;have HTD:=Lib.hid htd;rw[htd];have hX:eX w.heap.size td (.slice a n c) (.slice a' n c') (w.alloc (.cells #[.int .i64 4,.bool false,.string td,.slice a n c,.slice a' n c'] 24)):=aq w _;have HX:=Lib.hid hX;have HB:=Lib.hid (aO w (.cells #[.int .i64 4,.bool false,.string td,.slice a n c,.slice a' n c'] 24));clear h hn htd hX
 go_enter func26,ntmps26
 go_wp2_with fail
 refine (hid _ HB.out).mono ?_;rintro e w1 ⟨rfl,hb⟩;have HX1:=Lib.hid ((hb.block _ (ar HX.out)).trans HX.out);replace HB:=Lib.hid (HB.out.trans (hb.mono HB.out.size));have x3:=aa HX1.out 3;have x4:=aa HX1.out 4;have x0:=aa HX1.out 0;clear hb hid HX
 go_wp2_with fail
 go_loopg [3] n (fun gh v wr=>∃(i:Nat),gh=n-i∧i≤n∧v=.int .i64 i∧eX w.heap.size td (.slice a n c) (.slice a' n c') wr∧Below w.heap.size w wr)
 case atStart=>exact ⟨0,rfl,aM _,rfl,HX1.out,HB.out⟩
 case round=>
  obtain ⟨i,rfl,hi,rfl,hX,hb⟩:=hrel;clear x0 x3 x4 HX1 HB;have HX:=Lib.hid hX;have HB:=Lib.hid hb;clear hX hb;have hi0:(0:Int)≤(i:Int):=by omega
  have y3:=aa HX.out 3
  by_cases hlt:i<n
  · have hlt':(i:Int)<(n:Int):=by omega
    have hl:i<l.length:=by rw[HN.out];exact hlt
    obtain ⟨g,o,cc,g',o',cc',e1,e2,hk,hu⟩:=(HH.out.far HB.out).cell hl;rw[HN.out] at e1 e2;injection e1 with e1 _ e1c;injection e2 with e2 _ e2c;subst e1 e2 e1c e2c;have hne:=HNE.out i hl;have hik:=fun W hW=>(HII.out i hl W hW).1
    have hiv:=fun W hW=>(HII.out i hl W hW).2
    rw[HTD.out] at hne;obtain ⟨tk,htk⟩:∃t,TI l[i].1=t:=⟨_,rfl⟩
    obtain ⟨tv,htv⟩:∃t,TI l[i].2=t:=⟨_,rfl⟩
    rw[htk] at hk hik;rw[htv] at hu hiv hne;have HTK:=Lib.hid htk;clear htk htv;have C0:Hid (∀W,Below wr.heap.size wr W→W.cell? ⟨g,o+i,none⟩=some (.string tk)∧W.cell? ⟨g',o'+i,none⟩=some (.string tv)):=Lib.hid fun W hW=>⟨(hW.cell (World.block_lt_of_cell? _ _ hk)).trans hk,(hW.cell (World.block_lt_of_cell? _ _ hu)).trans hu⟩
    have C1:Hid (∀W,Below wr.heap.size wr W→eX w.heap.size td (.slice (some ⟨g,o,none⟩) n c) (.slice (some ⟨g',o',none⟩) n c') W):=Lib.hid fun W hW=>(hW.block _ (ar HX.out)).trans HX.out
    have HIK:=Lib.hid (fun W (hW:Below wr.heap.size wr W)=>hik W (HB.out.trans (hW.mono HB.out.size)));have HIV:=Lib.hid (fun W (hW:Below wr.heap.size wr W)=>hiv W (HB.out.trans (hW.mono HB.out.size)));clear hik hiv hu
    go_wp2_with fail
    clear y3
    by_cases hk0:i=0
    · subst hk0;refine cU (fun W=>Below wr.heap.size wr W) (by kernel_rfl) (by kernel_rfl) (am _ _).drew ?_
      repeat (first
       | (refine d9 ?_ ?_
          · (go_simp;done)
          simp only[Act.put,ac,ag,ah])
       | (refine dT (v:= ?_) ?_ ?_ ?_
          rotate_left
          · (go_simp;done)
          · intro W hW;obtain ⟨z0,z1⟩:=C0.out W hW;simp only[Nat.add_zero] at z0 z1;have z2:=aa (C1.out W hW) 2;have z3:=aa (C1.out W hW) 3;have z4:=aa (C1.out W hW) 4
            go_simp
            first
            | with_reducible rfl
            | (go_at_call 43;(first | with_reducible refine (HIK.out W hW).mono ?_ | with_reducible refine (HIV.out W hW).mono ?_);rintro e u ⟨rfl,hb⟩;refine ⟨?_,hW.trans (hb.mono hW.size)⟩;with_reducible rfl)
          simp only[Act.put,ac,ag,ah]))
      refine fu ?_;intro w2 hw2;have HX2:=Lib.hid (C1.out w2 hw2);have HB2:=Lib.hid (HB.out.trans (hw2.mono HB.out.size));clear hw2
      go_wp2
      go_roundg (n-(0+1))
      case rel=>exact ⟨0+1,rfl,by omega,by go_num,HX2.out,HB2.out⟩
      case measure=>omega
    · obtain ⟨j,hjk⟩:∃j,i=j+1:=⟨i-1,by omega⟩
      have hjl:j+1<l.length:=by rw[HN.out];omega
      have hcm:=HCM.out j hjl;obtain ⟨g0,o0,cc0,g0',o0',cc0',e1,e2,hk0',-⟩:=(HH.out.far HB.out).cell (show j<l.length by omega);rw[HN.out] at e1;injection e1 with e1 _ e1c;injection (aI e1) with e1 e1o _;subst e1 e1o e1c;rw[show TI (l[j+1]'hjl).1=tk by have:=HTK.out;subst hjk;exact this] at hcm;obtain ⟨tp,htp⟩:∃t,TI (l[j]'(by omega)).1=t:=⟨_,rfl⟩
      rw[htp] at hcm hk0';have C2:Hid (∀W,Below wr.heap.size wr W→W.cell? ⟨g,o+j,none⟩=some (.string tp)):=Lib.hid fun W hW=>(hW.cell (World.block_lt_of_cell? _ _ hk0')).trans hk0'
      have HCC:=Lib.hid (fun W (hW:Below wr.heap.size wr W)=>hcm W (HB.out.trans (hW.mono HB.out.size)));have d1:decide ((0:Int)<(i:Int))=true:=aH (by omega);have d0:(0:Int)<(i:Int):=by omega
      have d2:0<i:=by omega
      have d3:decide (0<i)=true:=aH d2;have hw1:IntKind.i64.wrap ((i:Int)-1)=(j:Int):=by rw[IntKind.wrap_i64];omega
      have e3:(0:Int)≤(j:Int):=by omega
      have e4:(j:Int)<(n:Int):=by omega
      clear hcm hk0' htp hjl hjk e2;refine cU (fun W=>Below wr.heap.size wr W) (by kernel_rfl) (by kernel_rfl) (am _ _).drew ?_
      repeat (first
       | (refine d9 ?_ ?_
          · (go_simp;done)
          simp only[Act.put,ac,ag,ah])
       | (refine dT (v:= ?_) ?_ ?_ ?_
          rotate_left
          · (go_simp;done)
          · intro W hW;obtain ⟨z0,z1⟩:=C0.out W hW;have z2:=aa (C1.out W hW) 2;have z3:=aa (C1.out W hW) 3;have z4:=aa (C1.out W hW) 4;have z5:=C2.out W hW
            go_simp
            first
            | with_reducible rfl
            | (go_at_call 43;(first | with_reducible refine (HIK.out W hW).mono ?_ | with_reducible refine (HIV.out W hW).mono ?_);rintro e u ⟨rfl,hb⟩;refine ⟨?_,hW.trans (hb.mono hW.size)⟩;with_reducible rfl)
            | (go_at_call 44;with_reducible refine (HCC.out W hW).mono ?_;rintro e u ⟨rfl,hb⟩;refine ⟨?_,hW.trans (hb.mono hW.size)⟩;with_reducible rfl)
          simp only[Act.put,ac,ag,ah]))
      refine fu ?_;intro w2 hw2;have HX2:=Lib.hid (C1.out w2 hw2);have HB2:=Lib.hid (HB.out.trans (hw2.mono HB.out.size));clear hw2
      go_wp2
      go_roundg (n-(i+1))
      case rel=>exact ⟨i+1,rfl,by omega,by go_num,HX2.out,HB2.out⟩
      case measure=>omega
  · have hlt':¬((i:Int)<(n:Int)):=by omega
    go_wp2
    go_ret
    exact ⟨rfl,HB.out⟩
end Go.Proofs.YtpkfnnkbfphfbaaGreatDoor.Se
namespace Go.Proofs.YtpkfnnkbfphfbaaGreatDoor.Se
open Go.RowKit Go.Proofs.Tryz
def Aq:Go.Shelf.Ren:=⟨fun | 22=>70 | 17=>190 | 29=>105 | 30=>106 | 36=>148 | n=>n,fun | 24=>22 | 9=>9 | 3=>3 | 4=>4 | 0=>0 | n=>n,fun | n=>n⟩
theorem jJ:Go.Proofs.Lays2.n22 prog Aq:={
 mixed:=by kernel_rfl
 f17:=func190.trans (congrArg some (by kernel_rfl))
 f22:=func70.trans (congrArg some (by kernel_rfl))
 f29:=func105.trans (congrArg some (by kernel_rfl))
 f30:=func106.trans (congrArg some (by kernel_rfl))
 f36:=func148.trans (congrArg some (by kernel_rfl))
 t0:=underlying0
 a0:=isAgg0
 z0:=sizeOf0
 v0:=zeroValue0
 t3:=underlying3
 a3:=isAgg3
 z3:=sizeOf3
 v3:=zeroValue3
 t4:=underlying4
 a4:=isAgg4
 z4:=sizeOf4
 v4:=zeroValue4
 t9:=underlying9
 a9:=isAgg9
 z9:=sizeOf9
 v9:=zeroValue9
 t24:=underlying22
 a24:=isAgg22
 z24:=sizeOf22
 v24:=zeroValue22
 i9:=by kernel_rfl }
end Go.Proofs.YtpkfnnkbfphfbaaGreatDoor.Se
namespace Go.Proofs.YtpkfnnkbfphfbaaGreatDoor.Se
open Go.RowKit Nmx Go.Proofs.Tryz
def lj:Array Value→Nat→List Value→Array Value
 | cs,_,[]=>cs
 | cs,o,v::r=>lj (cs.setIfInBounds o v) (o+1) r
theorem dD:∀(vs:List Value) (cs:Array Value) (o:Nat),(lj cs o vs).size=cs.size
 | [],_,_=>rfl
 | v::r,cs,o=>by rw[lj,dD r];simp
theorem dJ:∀(vs:List Value) (cs:Array Value) (o:Nat),o+vs.length≤cs.size→(lj cs o vs).toList=cs.toList.take o++vs++cs.toList.drop (o+vs.length)
 | [],_,_,_=>by simp[lj]
 | v::r,cs,o,h=>by
   have h':o<cs.toList.length:=by simp at h ⊢;omega
   rw[lj,dJ r _ _ (by simp at h ⊢;omega)];simp only[Array.toList_setIfInBounds,aw];rw[List.take_add_one,List.getElem?_set_self h',List.take_set_of_le (aj _),List.drop_set_of_lt (by omega)]
   simp[Nat.add_assoc,Nat.add_comm 1]
theorem dx {g:Nat} {ty:TypeId}:∀(vs:List Value) (o:Nat) {w:World} {cs:Array Value},w.heap[g]? =some (.cells cs ty (0,0))→(w.setCells g o vs).heap[g]? =some (.cells (lj cs o vs) ty (0,0))
 | [],_,_,_,h=>h
 | v::r,o,_,_,h=>dx r (o+1) (heap_set h o v)
theorem cq {g b:Nat} (hb:b≠g):∀(vs:List Value) (o:Nat) (w:World),(w.setCells g o vs).heap[b]? =w.heap[b]?
 | [],_,_=>rfl
 | _::r,o,_=>(cq hb r (o+1) _).trans (aG _ _ _ _ hb)
theorem eo {w w1:World} {g:Nat} (vs:List Value) (o:Nat) (h:w.grownBy w1 (some g)):w.grownBy (w1.setCells g o vs) (some g):=by
 induction vs generalizing o w1 with
 | nil=>exact h
 | cons v r ih=>exact ih (o+1) (dQ h o v)
theorem gG {w w1:World} {r:Option Nat} (h:w.grownBy w1 r):w.grownBy w1.drew r:=⟨h.os,h.tape,h.output,h.size,h.block⟩
theorem pZ {w w':World} {q:Nat} {r:Option Nat} (h:w.grownBy w' (some q)) (hq:w.heap.size≤q):w.grownBy w' r:=
 ⟨h.os,h.tape,h.output,h.size,fun k hk _=>h.block k hk (fun e=>by have:=aI e;omega)⟩
theorem yE (ts:List ByteArray):Lib.strsOf (fun j=>ts.getD j ByteArray.empty) ts.length=ts.map fun x=>x.data.toList:=by
 apply List.ext_getElem (by simp[Lib.strsOf]);intro i h1 h2
 simp at h2
 simp[Lib.strsOf,h2]
theorem vg (ts:List ByteArray) {i:Nat}:((ts.map fun x:ByteArray=>x.data.toList).take i++(ts.map fun x:ByteArray=>x.data.toList).drop (i+1)++List.replicate (i+1-i) []).map encStr=(ts.eraseIdx i).map Value.string++[.string ⟨#[]⟩]:=by
 rw[show i+1-i=1 by omega,←List.map_take,←List.map_drop,←List.map_append,←List.eraseIdx_eq_take_drop_succ]
 simp[encStr]
theorem ud {ts:List ByteArray}:∀v∈ts.map Value.string,v.oneCell'=true:=by
 intro v hv;obtain ⟨x,-,rfl⟩:=List.mem_map.1 hv;rfl
theorem qg {k:Value} {ts:List ByteArray} (w:World) (h:RRow w k ts) (hl:ts.length≤100000):
    Calls prog 67 #[k] w fun e w'=>∃v,e=.returned v∧SRow w.heap.size w' v ts∧Below w.heap.size w w':=by
 by_cases h0:ts.length=0
 · obtain ⟨a,cap,rfl,hn,-⟩:=h.sl;obtain rfl:=List.eq_nil_of_length_eq_zero h0;cases a with
   | none=>
     obtain rfl:=hn rfl;refine (Tryz.slices_Clone_string_nil 0 0 w).mono ?_;rintro e w' ⟨rfl,rfl⟩;exact ⟨_,rfl,World.ownsRow_nil _ _ _ _,am _ _⟩
   | some a=>
     refine (Tryz.slices_Clone_string_zero a cap w).mono ?_;rintro e w' ⟨v,rfl,ho,-,hb⟩;exact ⟨v,rfl,ho,hb⟩
 · obtain ⟨g,o,cap,rfl,-⟩:=h.cell (ay (show 0<ts.length by omega));refine (Tryz.slices_Clone_string g o ts.length cap ts w (aj _) (by omega) (fun j hj=>?_)).mono ?_
   · obtain ⟨g',o',c',e,hc⟩:=h.cell (ay hj);injection e with e _ _;injection aI e with e e2 _;subst e e2;rw[hc,aA,ay hj];rfl
   · rintro e w' ⟨v,rfl,ho,-,hb⟩;rw[List.take_length] at ho;exact ⟨v,rfl,ho,hb⟩
theorem SRow.set {S g c n:Nat} {w:World} {ts:List ByteArray} (h:SRow S w (.slice (some ⟨g,0,none⟩) n c) ts) (j:Nat) (t:ByteArray):SRow S (w.setCell ⟨g,j,none⟩ (.string t)) (.slice (some ⟨g,0,none⟩) n c) (ts.set j t):=by
 obtain ⟨hlen,⟨h0,-⟩ | ⟨g',cap,cur,e,hS,hh,hnc,hcm,hcs,htk⟩⟩:=h
 · cases h0
 · injection e with e1 e2 e3;injection aI e1 with e1 _ _;subst e1 e3;refine ⟨by simp,.inr ⟨g,c,cur.setIfInBounds j (.string t),by rw[aQ,e2],hS,heap_set hh j _,by rw[aQ];exact hnc,hcm,by simpa using hcs,?_⟩⟩;rw[Array.toList_setIfInBounds,aQ,List.take_set,htk,List.map_set]
def ue (S:Nat) (w:World) (k:Value) (ts:List ByteArray) (e:Ending) (w':World):Prop:=
 ∃v,e=.returned v∧SRow S w' v ts∧w.grownBy w' k.ownBlock∧∀g,v.ownBlock=some g→k.ownBlock=some g∨w.heap.size≤g
theorem nM {S g c i:Nat} {ts:List ByteArray} (w:World) (h:SRow S w (.slice (some ⟨g,0,none⟩) ts.length c) ts) (hi:i<ts.length):
    Calls prog 69 #[.slice (some ⟨g,0,none⟩) ts.length c,.int .i64 i,.int .i64 ((i:Int)+1)] w (ue S w (.slice (some ⟨g,0,none⟩) ts.length c) (ts.eraseIdx i)):=by
 obtain ⟨hlen,⟨h0,-⟩ | ⟨g',cap,cur,e,hS,hh,hnc,hcm,hcs,htk⟩⟩:=id h
 · cases h0
 · injection e with e1 e2 e3;injection aI e1 with e1 _ _;subst e1 e3
   have:=Tryz.slices_Delete_string_cells g 0 ts.length c i (i+1) (fun j=>ts.getD j ByteArray.empty) w hnc (by unfold maxLen at hcm;omega) (by omega) (by omega) (fun j hj=>by
    obtain ⟨g',c',e,hc⟩:=h.cell (ay hj);injection e with e _ _;injection aI e with e _ _;subst e
    rw[Nat.zero_add,hc];simp[hj]) (fun _ _=>aK hh _)
   rw[Int.natCast_add] at this;refine this.mono ?_;rintro e w' ⟨rfl,q,rfl⟩;rw[yE,vg ts,show ts.length-(i+1-i)=(ts.eraseIdx i).length by rw[List.length_eraseIdx_of_lt hi];omega];have hh':(w.drewN q).heap[g]? =some (.cells cur 9 (0,0)):=hh;have hel:(ts.eraseIdx i).length+1=ts.length:=by rw[List.length_eraseIdx_of_lt hi];omega
   refine ⟨_,rfl,⟨by simp,.inr ⟨g,c,_,rfl,hS,dx _ 0 hh',by omega,hcm,by rw[dD];exact hcs,?_⟩⟩,eo _ 0 (d4 (cY w _) q),fun _ h=>.inl h⟩;rw[dJ _ _ _ (by simp;omega)]
   simp
theorem wn {α:Type} (xs R:List α) (v:α) {n:Nat} (hn:xs.length=n):(xs++v::R).take (n+1)=xs++[v]:=by
 rw[show xs++v::R=(xs++[v])++R by simp];exact List.take_left' (by simp[hn])
theorem r9 {α:Type} (c xs:List α) (v:α) {i n:Nat} (hx:c.take n=xs) (hn:xs.length=n) (hi:i<n) (hc:n+1≤c.length):
    ((c.take (i+1)++xs.drop i++c.drop (i+1+(xs.drop i).length)).take i++[v]++(c.take (i+1)++xs.drop i++c.drop (i+1+(xs.drop i).length)).drop (i+1)).take (n+1)=xs.take i++v::xs.drop i:=by
 have e1:(c.take (i+1)++xs.drop i++c.drop (i+1+(xs.drop i).length)).take i=xs.take i:=by
  rw[List.append_assoc,List.take_append_of_le_length (by simp;omega),List.take_take,Nat.min_eq_left (by omega),←hx,List.take_take,Nat.min_eq_left (by omega)]
 have e2:(c.take (i+1)++xs.drop i++c.drop (i+1+(xs.drop i).length)).drop (i+1)=xs.drop i++c.drop (i+1+(xs.drop i).length):=by
  rw[List.append_assoc];exact List.drop_left' (by simp;omega)
 rw[e1,e2,←List.append_assoc];rw[List.take_left' (by simp;omega)]
 simp
theorem vh {α:Type} (xs Z:List α) (v:α) {i n:Nat} (hn:xs.length=n) (hi:i<n):
    (((xs.take i++Z).take i++[v]++(xs.take i++Z).drop (i+1)).take (i+1)++xs.drop i++((xs.take i++Z).take i++[v]++(xs.take i++Z).drop (i+1)).drop (i+1+(xs.drop i).length)).take (n+1)=xs.take i++v::xs.drop i:=by
 have e1:(xs.take i++Z).take i=xs.take i:=List.take_left' (by simp;omega);rw[e1];have e2:(xs.take i++[v]++(xs.take i++Z).drop (i+1)).take (i+1)=xs.take i++[v]:=List.take_left' (by simp;omega);rw[e2,List.take_left' (by simp;omega)]
 simp
theorem nN {S i vb vc:Nat} {k:Value} {ts:List ByteArray} {t:ByteArray} (w:World) (h:SRow S w k ts) (hi:i≤ts.length) (hl:ts.length≤100000) (hS:S≤w.heap.size) (hv:w.heap[vb]? =some (.cells #[.string t] 9 (0,0))) (hne:k.ownBlock≠some vb):
    Calls prog 70 #[k,.int .i64 i,.slice (some ⟨vb,0,none⟩) 1 vc] w (ue S w k (ts.take i++t::ts.drop i)):=by
 have hvs:∀j v,[Value.string t][j]? =some v→w.cell? ⟨vb,0+j,none⟩=some v:=fun j v hj=>by
  match j,hj with
  | 0,hj=>rw[aa hv];simpa using hj
 have h1v:∀v∈[Value.string t],v.oneCell'=true:=fun v hv=>by rw[List.mem_singleton.1 hv];rfl
 have hmid:(ts.take i++t::ts.drop i).length=ts.length+1:=by simp;omega
 obtain ⟨hlen,⟨rfl,h0⟩ | ⟨g,cap,cur,rfl,hSg,hh,hnc,hcm,hcs,htk⟩⟩:=id h
 · obtain rfl:=List.eq_nil_of_length_eq_zero h0;obtain rfl:i=0:=by simpa using hi
   have:=Any2.slices_Insert_string_end_grow jJ none 0 0 vb 0 1 vc [] [.string t] w (by omega) (aj _) (by omega) (by omega) rfl rfl (fun _=>rfl) (fun a ha=>by cases ha) hvs h1v;refine Calls.mono this ?_;rintro e w' ⟨rfl,rfl⟩;refine ⟨_,rfl,⟨by simp,.inr ⟨w.heap.size,_,_,rfl,hS,aq w.drew _,?_,grownCap_le_maxLen _ _ _ _ (by unfold maxLen;omega),?_,?_⟩⟩,⟨rfl,rfl,rfl,by simp,fun k hk _=>heap_alloc_old w.drew _ (show _<w.drew.heap.size from hk)⟩,fun _ h=>.inr (Nat.le_of_eq (aI h))⟩
   · exact grownCap_ge _ _ _ _
   · have:=grownCap_ge w (0+1) 0 9;simp only[Array.size_append,List.size_toArray,size_zeroCells,List.nil_append,aw,aN];show 0+1+(grownCap w (0+1) 0 9-(0+1))*1=grownCap w (0+1) 0 9*1
     omega
   · simp
 · have hcs':∀j v,(ts.map Value.string)[j]? =some v→w.cell? ⟨g,0+j,none⟩=some v:=fun j v hj=>by
     rw[List.getElem?_map] at hj;obtain ⟨x,hx,rfl⟩:=Option.map_eq_some_iff.1 hj;obtain ⟨g',c',e,hc⟩:=h.cell hx;injection e with e _ _;injection aI e with e _ _;subst e;rw[Nat.zero_add,hc]
   have hcl:(ts.map Value.string).length=ts.length:=by simp
   have hgne:g≠vb:=fun e=>hne (by rw[e];rfl)
   have hG:=grownCap_ge w (ts.length+1) cap 9
   by_cases hroom:ts.length+1≤cap
   · have hsp:∀j,j<ts.length+1→(w.cell? ⟨g,0+j,none⟩).isSome=true:=fun j hj=>by
       rw[aa hh,Array.getElem?_eq_getElem (by omega)];rfl
     by_cases hin:i=ts.length
     · subst hin;have:=Any2.slices_Insert_string_end_room jJ g 0 ts.length cap vb 0 1 vc [.string t] w (by omega) hroom hcm rfl (fun j hj=>by have:=hsp (ts.length+j) (by omega);rwa [←Nat.add_assoc] at this) (fun _ _=>aK hh _) hvs h1v;refine Calls.mono this ?_;rintro e w' ⟨rfl,rfl⟩;refine ⟨_,rfl,⟨by simp,.inr ⟨g,cap,_,by rw[hmid],hSg,dx _ _ hh,by omega,hcm,by rw[dD];exact hcs,?_⟩⟩,eo _ _ (cY w _),fun _ h=>.inl h⟩;rw[dJ _ _ _ (by simp;omega),hmid,Nat.zero_add];rw[Nat.mul_one] at htk ⊢;rw[htk,List.append_assoc,List.singleton_append,wn _ _ _ hcl]
       simp
     · have hlt:i<ts.length:=by omega
       have:=Any2.slices_Insert_string_shift jJ g 0 ts.length cap i vb 0 1 vc (ts.map Value.string) [.string t] w hlt (by omega) hroom hcm (fun e=>hgne e.symm) hcl rfl hcs' hsp (fun _ _=>aK hh _) hvs ud h1v 9 9 1 cur.size (by unfold World.shape?;rw[hv];rfl) (by unfold World.shape?;rw[hh]) (by omega) (aK hv _) (aK hv _);refine Calls.mono this ?_;rintro e w' ⟨rfl,rfl⟩;have hh':w.drew.heap[g]? =some (.cells cur 9 (0,0)):=hh;refine ⟨_,rfl,⟨by simp,.inr ⟨g,cap,_,by rw[hmid],hSg,dx _ _ (dx _ _ hh'),by omega,hcm,by rw[dD,dD];exact hcs,?_⟩⟩,eo _ _ (eo _ _ (gG (cY w _))),fun _ h=>.inl h⟩;rw[dJ _ _ _ (by rw[dD];simp;omega),dJ _ _ _ (by simp;omega),hmid];rw[Nat.mul_one] at htk ⊢;simp only[Nat.zero_add];have hst:=r9 cur.toList (ts.map Value.string) (Value.string t) htk hcl hlt (by simp;omega);simp only[aS];rw[hst]
       simp
   · by_cases hin:i=ts.length
     · subst hin;have:=Any2.slices_Insert_string_end_grow jJ (some ⟨g,0,none⟩) ts.length cap vb 0 1 vc (ts.map Value.string) [.string t] w (by omega) hnc (by omega) (by omega) hcl rfl (fun h=>by cases h) (fun a ha j v hj=>by cases ha;have:=hcs' j v hj;rw[Addr.add_lit];exact this) hvs h1v;refine Calls.mono this ?_;rintro e w' ⟨rfl,rfl⟩;refine ⟨_,rfl,⟨by simp,.inr ⟨w.heap.size,_,_,by rw[hmid],hS,aq w.drew _,by rw[hmid];exact hG,grownCap_le_maxLen _ _ _ _ (by unfold maxLen;omega),?_,?_⟩⟩,⟨rfl,rfl,rfl,by simp,fun k hk _=>heap_alloc_old w.drew _ (show _<w.drew.heap.size from hk)⟩,fun _ h=>.inr (Nat.le_of_eq (aI h))⟩
       · simp only[Array.size_append,List.size_toArray,size_zeroCells,aE,hcl,aS];show ts.length+1+(grownCap w (ts.length+1) cap 9-(ts.length+1))*1=grownCap w (ts.length+1) cap 9*1
         omega
       · rw[hmid,Nat.mul_one];simp only[Array.toList_append];rw[List.take_left' (by simp)]
         simp
     · have hlt:i<ts.length:=by omega
       have:=Any2.slices_Insert_string_grow jJ g 0 ts.length cap i vb 0 1 vc (ts.map Value.string) [.string t] w hlt (by omega) hnc (by omega) (by omega) hcl rfl hcs' hvs ud h1v;refine Calls.mono this ?_;rintro e w' ⟨rfl,rfl⟩;have hgr:∀o:Obj,w.grownBy (w.alloc o).drew (some w.heap.size):=fun o=>gG (dt (cx (aO w o)))
       refine ⟨_,rfl,⟨by simp,.inr ⟨w.heap.size,_,_,by rw[hmid],hS,dx _ _ (dx (w:=(w.alloc _).drew) _ _ (aq w _)),by rw[hmid];exact hG,grownCap_le_maxLen _ _ _ _ (by unfold maxLen;omega),?_,?_⟩⟩,pZ (eo _ _ (gG (eo _ _ (hgr _)))) (aj _),fun _ h=>.inr (Nat.le_of_eq (aI h))⟩
       · rw[dD,dD];simp only[Array.size_append,List.size_toArray,size_zeroCells,List.length_take,hcl];show min i ts.length+(ts.length+1-i)*1+(grownCap w (ts.length+1) cap 9-(ts.length+1))*1=grownCap w (ts.length+1) cap 9*1;rw[Nat.min_eq_left (by omega)]
         omega
       · have hsz:∀m n,(Builtin.zeroCells (Value.string ⟨#[]⟩).cells m++Builtin.zeroCells (Value.string ⟨#[]⟩).cells n).toList.length=m+n:=fun m n=>by
           simp only[Array.toList_append,aE,Array.length_toList,size_zeroCells];show m*1+n*1=m+n
           omega
         rw[dJ _ _ _ (by
          rw[dD];simp only[Array.size_append,List.size_toArray,size_zeroCells,List.length_take,hcl,List.length_drop];show i+1+(ts.length-i)≤min i ts.length+(ts.length+1-i)*1+(grownCap w (ts.length+1) cap 9-(ts.length+1))*1;rw[Nat.min_eq_left (by omega)]
          omega),dJ _ _ _ (by
          simp only[Array.size_append,List.size_toArray,size_zeroCells,List.length_take,hcl,aS];show i+1≤min i ts.length+(ts.length+1-i)*1+(grownCap w (ts.length+1) cap 9-(ts.length+1))*1;rw[Nat.min_eq_left (by omega)]
          omega),hmid,Nat.mul_one]
         simp only[Array.toList_append,List.append_assoc,aS];have hgt:=vh (ts.map Value.string) (Builtin.zeroCells (Value.string ⟨#[]⟩).cells (ts.length+1-i)++Builtin.zeroCells (Value.string ⟨#[]⟩).cells (grownCap w (ts.length+1) cap 9-(ts.length+1))).toList (Value.string t) hcl hlt;simp only[Array.toList_append,List.append_assoc] at hgt;refine Eq.trans hgt ?_
         simp
end Go.Proofs.YtpkfnnkbfphfbaaGreatDoor.Se

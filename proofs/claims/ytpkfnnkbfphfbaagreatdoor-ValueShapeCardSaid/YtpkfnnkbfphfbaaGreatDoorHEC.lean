import Derived.Test.YtpkfnnkbfphfbaaGreatDoorHEB
set_option maxRecDepth 100000
set_option maxHeartbeats 40000000
namespace Go.Proofs.YtpkfnnkbfphfbaaGreatDoor
structure ShutQ (P:Program) (ops:Array Oper) (C:World→Prop) (Q:Act→Prop) (l:List Oper) (a:Act):Prop where
 go:wpQuiet P ops C Q l a
section
variable {P:Program} {ops:Array Oper} {C:World→Prop} {Q:Act→Prop} {a:Act} {o:Oper} {rest:List Oper}
theorem fu (h:Q a):ShutQ P ops C Q [] a:=⟨h⟩
theorem d9 (hw:Region.wanted o (yielded ops a.tmps)=false) (h:ShutQ P ops C Q rest (a.put o.dst undef)):ShutQ P ops C Q (o::rest) a:=by
 refine ⟨?_⟩;unfold wpQuiet;rw[aB (by rw[hw];exact Bool.false_ne_true)];exact h.go
theorem dT {v:Value} (hw:Region.wanted o (yielded ops a.tmps)=true) (hv:∀w,C w→o.quietAt P a C w v) (h:ShutQ P ops C Q rest (a.put o.dst v)):ShutQ P ops C Q (o::rest) a:=by
 refine ⟨?_⟩;unfold wpQuiet;rw[aF hw];exact ⟨v,hv,h.go⟩
theorem cU {id:Nat} {Q:Exit→Act→World→Prop} {w:World} {l:List Oper} (C:World→Prop) (hm:P.follows .mixedOrders=true) (hB:Region.lexB .any l.toArray=true) (hC:C w.drew)
    (h:ShutQ P l.toArray C (fun a'=>∀w',C w'→Q .normal a' w') l a):(Code.region id l.toArray true).wp P Q a w:=
 wp_region_quiet (C:=C) hm hB hC (by simpa using h.go)
end
end Go.Proofs.YtpkfnnkbfphfbaaGreatDoor
namespace Go.Proofs.YtpkfnnkbfphfbaaGreatDoor.Se
open Go.RowKit Nmx Go.Proofs.Tryz
def cI (a b:Int):Int:=if a<b then -1 else if b<a then 1 else 0
theorem fY {z:Int} (hz:Sm z) (W:World) (h:Env W):Calls prog 32 #[.string (TI z)] W fun e w'=>e=.returned (.bool true)∧Below W.heap.size W w':=by
 have:=oD hz.ds (by decide) W h;rw[Rat.den_intCast] at this;exact this
theorem oL {x y:Int} (hx:Sm x) (hy:Sm y) (W:World) (h:Env W) {r:Int} (hr:cI x y=r):Calls prog 58 #[.string (TI x),.string (TI y)] W fun e w'=>e=.returned (.int .i64 r)∧Below W.heap.size W w':=by
 have:=zC hx.ds hy.ds (by decide) (by decide) W h;rw[ri] at this;subst hr;exact this
abbrev eX (S:Nat) (td:ByteArray) (k u:Value) (W:World):Prop:=W.heap[S]? =some (.cells #[.int .i64 4,.bool false,.string td,k,u] 24 (0,0))
theorem jm {d:Int} {l:Arx.L} {k u:Value} (w:World) (hE:Env w) (h:AR w d l k u):
    Calls prog 34 #[bh 4 false (TI d) k u] w fun e w'=>e=.returned (.bool true)∧Below w.heap.size w w':=by
 obtain ⟨a,c,a',c',rfl,rfl⟩:=h.form;have hln:=h.ln;have hid:=fun (W:World) (hW:Below w.heap.size w W)=>fY h.sd W (hE.far hW)
 have HII:=Lib.hid (fun (i:Nat) (hi:i<l.length) (W:World) (hW:Below w.heap.size w W)=>And.intro (fY (h.sl _ (List.getElem_mem hi)).1 W (hE.far hW)) (fY (h.sl _ (List.getElem_mem hi)).2 W (hE.far hW)));have HCM:=Lib.hid (fun (j:Nat) (hj:j+1<l.length) (W:World) (hW:Below w.heap.size w W)=>oL (r:= -1) (h.sl _ (List.getElem_mem (show j<l.length by omega))).1 (h.sl _ (List.getElem_mem hj)).1 W (hE.far hW) (by unfold cI;rw[aF (h.vd.lt hj)]));have HNE:=Lib.hid (fun (i:Nat) (hi:i<l.length)=>(show ((TI l[i].2).toList==(TI d).toList)=false by rw[lW];exact aD (h.vd.ne _ (List.getElem_mem hi))));have HH:=Lib.hid h;have HS0:Hid (0<w.heap.size):=Lib.hid hE.big;obtain ⟨n,hn⟩:∃n,l.length=n:=⟨_,rfl⟩
 rw[hn] at hln;have HN:=Lib.hid hn;unfold bh;rw[hn];obtain ⟨td,htd⟩:∃td,TI d=td:=⟨_,rfl⟩
 rw[htd] at hid;have HTD:=Lib.hid htd;rw[htd];have hX:eX w.heap.size td (.slice a n c) (.slice a' n c') (w.alloc (.cells #[.int .i64 4,.bool false,.string td,.slice a n c,.slice a' n c'] 24)):=aq w _;have HX:=Lib.hid hX;have HB:=Lib.hid (aO w (.cells #[.int .i64 4,.bool false,.string td,.slice a n c,.slice a' n c'] 24));clear h hE hn htd hX
 go_enter func34,ntmps34
 go_wp2_with fail
 refine (hid _ HB.out).mono ?_;rintro e w1 ⟨rfl,hb⟩;have HX1:=Lib.hid ((hb.block _ (ar HX.out)).trans HX.out);replace HB:=Lib.hid (HB.out.trans (hb.mono HB.out.size));have x3:=aa HX1.out 3;have x4:=aa HX1.out 4;clear hb hid HX
 go_wp2_with fail
 go_loopg [21] n (fun gh v wr=>∃(i:Nat),gh=n-i∧i≤n∧v=.int .i64 i∧eX w.heap.size td (.slice a n c) (.slice a' n c') wr∧Below w.heap.size w wr)
 case atStart=>exact ⟨0,rfl,aM _,rfl,HX1.out,HB.out⟩
 case round=>
  obtain ⟨i,rfl,hi,rfl,hX,hb⟩:=hrel;clear x3 x4 HX1 HB;have HX:=Lib.hid hX;have HB:=Lib.hid hb;clear hX hb;have hi0:(0:Int)≤(i:Int):=by omega
  by_cases hlt:i<n
  · have hlt':(i:Int)<(n:Int):=by omega
    have hl:i<l.length:=by rw[HN.out];exact hlt
    obtain ⟨g,o,cc,g',o',cc',e1,e2,hk,hu⟩:=(HH.out.far HB.out).cell hl;rw[HN.out] at e1 e2;injection e1 with e1 _ e1c;injection e2 with e2 _ e2c;subst e1 e2 e1c e2c;have hne:=HNE.out i hl;have hik:=fun W hW=>(HII.out i hl W hW).1
    have hiv:=fun W hW=>(HII.out i hl W hW).2
    rw[HTD.out] at hne;obtain ⟨tk,htk⟩:∃t,TI l[i].1=t:=⟨_,rfl⟩
    obtain ⟨tv,htv⟩:∃t,TI l[i].2=t:=⟨_,rfl⟩
    rw[htk] at hk hik;rw[htv] at hu hiv hne;have HTK:=Lib.hid htk;clear htk htv;have C0:Hid (∀W,Below wr.heap.size wr W→W.cell? ⟨g,o+i,none⟩=some (.string tk)∧W.cell? ⟨g',o'+i,none⟩=some (.string tv)):=Lib.hid fun W hW=>⟨(hW.cell (World.block_lt_of_cell? _ _ hk)).trans hk,(hW.cell (World.block_lt_of_cell? _ _ hu)).trans hu⟩
    have C1:Hid (∀W,Below wr.heap.size wr W→eX w.heap.size td (.slice (some ⟨g,o,none⟩) n c) (.slice (some ⟨g',o',none⟩) n c') W):=Lib.hid fun W hW=>(hW.block _ (ar HX.out)).trans HX.out
    have HIK:=Lib.hid (fun W (hW:Below wr.heap.size wr W)=>hik W (HB.out.trans (hW.mono HB.out.size)));have HIV:=Lib.hid (fun W (hW:Below wr.heap.size wr W)=>hiv W (HB.out.trans (hW.mono HB.out.size)));clear hik hiv hu
    go_wp2_with fail
    by_cases hk0:i=0
    · subst hk0;refine cU (fun W=>Below wr.heap.size wr W) (by kernel_rfl) (by kernel_rfl) (am _ _).drew ?_
      repeat (first
       | (refine d9 ?_ ?_
          · (go_simp;done)
          simp only[Act.put,ac,ag,ah])
       | (refine dT (v:= ?_) ?_ ?_ ?_
          rotate_left
          · (go_simp;done)
          · intro W hW;obtain ⟨z0,z1⟩:=C0.out W hW;simp only[Nat.add_zero] at z0 z1;have z2:=aa (C1.out W hW) 2;have z3:=aa (C1.out W hW) 3;have z4:=aa (C1.out W hW) 4
            go_simp
            first
            | with_reducible rfl
            | (go_at_call 32;(first | with_reducible refine (HIK.out W hW).mono ?_ | with_reducible refine (HIV.out W hW).mono ?_);rintro e u ⟨rfl,hb⟩;refine ⟨?_,hW.trans (hb.mono hW.size)⟩;with_reducible rfl)
          simp only[Act.put,ac,ag,ah]))
      refine fu ?_;intro w2 hw2;have HX2:=Lib.hid (C1.out w2 hw2);have HB2:=Lib.hid (HB.out.trans (hw2.mono HB.out.size));clear hw2
      go_wp2
      go_roundg (n-(0+1))
      case rel=>exact ⟨0+1,rfl,by omega,by go_num,HX2.out,HB2.out⟩
      case measure=>omega
    · obtain ⟨j,hjk⟩:∃j,i=j+1:=⟨i-1,by omega⟩
      have hjl:j+1<l.length:=by rw[HN.out];omega
      have hcm:=HCM.out j hjl;obtain ⟨g0,o0,cc0,g0',o0',cc0',e1,e2,hk0',-⟩:=(HH.out.far HB.out).cell (show j<l.length by omega);rw[HN.out] at e1;injection e1 with e1 _ e1c;injection (aI e1) with e1 e1o _;subst e1 e1o e1c;rw[show TI (l[j+1]'hjl).1=tk by have:=HTK.out;subst hjk;exact this] at hcm;obtain ⟨tp,htp⟩:∃t,TI (l[j]'(by omega)).1=t:=⟨_,rfl⟩
      rw[htp] at hcm hk0';have C2:Hid (∀W,Below wr.heap.size wr W→W.cell? ⟨g,o+j,none⟩=some (.string tp)):=Lib.hid fun W hW=>(hW.cell (World.block_lt_of_cell? _ _ hk0')).trans hk0'
      have HCC:=Lib.hid (fun W (hW:Below wr.heap.size wr W)=>hcm W (HB.out.trans (hW.mono HB.out.size)));have d1:decide ((0:Int)<(i:Int))=true:=aH (by omega);have d0:(0:Int)<(i:Int):=by omega
      have d2:0<i:=by omega
      have d3:decide (0<i)=true:=aH d2;have hw1:IntKind.i64.wrap ((i:Int)-1)=(j:Int):=by rw[IntKind.wrap_i64];omega
      have e3:(0:Int)≤(j:Int):=by omega
      have e4:(j:Int)<(n:Int):=by omega
      clear hcm hk0' htp hjl hjk e2;refine cU (fun W=>Below wr.heap.size wr W) (by kernel_rfl) (by kernel_rfl) (am _ _).drew ?_
      repeat (first
       | (refine d9 ?_ ?_
          · (go_simp;done)
          simp only[Act.put,ac,ag,ah])
       | (refine dT (v:= ?_) ?_ ?_ ?_
          rotate_left
          · (go_simp;done)
          · intro W hW;obtain ⟨z0,z1⟩:=C0.out W hW;have z2:=aa (C1.out W hW) 2;have z3:=aa (C1.out W hW) 3;have z4:=aa (C1.out W hW) 4;have z5:=C2.out W hW
            go_simp
            first
            | with_reducible rfl
            | (go_at_call 32;(first | with_reducible refine (HIK.out W hW).mono ?_ | with_reducible refine (HIV.out W hW).mono ?_);rintro e u ⟨rfl,hb⟩;refine ⟨?_,hW.trans (hb.mono hW.size)⟩;with_reducible rfl)
            | (go_at_call 58;with_reducible refine (HCC.out W hW).mono ?_;rintro e u ⟨rfl,hb⟩;refine ⟨?_,hW.trans (hb.mono hW.size)⟩;with_reducible rfl)
          simp only[Act.put,ac,ag,ah]))
      refine fu ?_;intro w2 hw2;have HX2:=Lib.hid (C1.out w2 hw2);have HB2:=Lib.hid (HB.out.trans (hw2.mono HB.out.size));clear hw2
      go_wp2
      go_roundg (n-(i+1))
      case rel=>exact ⟨i+1,rfl,by omega,by go_num,HX2.out,HB2.out⟩
      case measure=>omega
  · have hlt':¬((i:Int)<(n:Int)):=by omega
    go_wp2
    go_ret
    exact ⟨rfl,HB.out⟩
theorem pX {d:Int} {l:Arx.L} {k u:Value} (w:World) (hE:Env w) (h:AR w d l k u):
    Calls prog 12 #[bh 4 false (TI d) k u] w fun e w'=>e=.returned (.bool true)∧Below w.heap.size w w':=by
 have hA:=aO w (.cells #[.int .i64 4,.bool false,.string (TI d),k,u] 24);have HB:=Lib.hid hA;have hva:=jm (w.alloc (.cells #[.int .i64 4,.bool false,.string (TI d),k,u] 24)) (hE.far hA) (h.far hA);obtain ⟨a,c,a',c',rfl,rfl⟩:=h.form;unfold bh at hva ⊢;generalize TI d=td at *;clear hA h hE;generalize l.length=n at *
 by_cases hn:n=0
 · subst hn
   go_enter func12,ntmps12
   go_wp2_with fail
   refine hva.mono ?_;rintro e w1 ⟨rfl,hb⟩;have HB1:=Lib.hid (HB.out.trans (hb.mono HB.out.size));clear hb hva
   go_wp2
   go_ret
   exact ⟨rfl,HB1.out⟩
 · have h0:¬(n:Int)=0:=by omega
   have h0':decide ((n:Int)=0)=false:=aD h0
   go_enter func12,ntmps12
   go_wp2_with fail
   refine hva.mono ?_;rintro e w1 ⟨rfl,hb⟩;have HB1:=Lib.hid (HB.out.trans (hb.mono HB.out.size));clear hb hva
   go_wp2
   go_ret
   exact ⟨rfl,HB1.out⟩
end Go.Proofs.YtpkfnnkbfphfbaaGreatDoor.Se

import Derived.Test.YtpkfnnkbfphfbaaGreatDoorHWD
import Derived.Test.YtpkfnnkbfphfbaaGreatDoorHNW
namespace Go.Proofs.YtpkfnnkbfphfbaaGreatDoor.Se
open Go.RowKit Nmx Go.Proofs.Tryz
def bh (s:Int) (b:Bool) (num:ByteArray) (k v:Value):Value:=.agg #[.int .i64 s,.bool b,.string num,k,v]
def noS:Value:=.slice none 0 0
def OneN (x:Nd) (w:World) (e:Ending) (w':World):Prop:=
 e=.returned (.slice (some ⟨w.heap.size,0,none⟩) 1 1)∧w'.heap[w.heap.size]? =some (.cells #[.int .i64 x.op,.int .i64 x.sort,.string x.name,.string x.num,.int .i64 x.kids] 57 (0,0))∧Below w.heap.size w w'
theorem OneN.new (x:Nd) (w:World):OneN x w (.returned (.slice (some ⟨w.heap.size,0,none⟩) 1 1)) (w.alloc (.cells #[.int .i64 x.op,.int .i64 x.sort,.string x.name,.string x.num,.int .i64 x.kids] 57)):=
 ⟨rfl,aq w _,(am _ _).alloc (aj _) _⟩
theorem fL (s:ByteArray) (sort:Int) (w:World):Calls prog 48 #[.string s,.int .i64 sort] w (OneN ⟨3,sort,⟨#[]⟩,s,0⟩ w):=by
 have HN:=Lib.hid (OneN.new ⟨3,sort,⟨#[]⟩,s,0⟩ w)
 go_enter func48,ntmps48
 go_wp2
 go_ret
 exact HN.out
theorem oJ (w:World):Calls prog 73 #[] w (OneN ⟨1,0,⟨#[]⟩,⟨#[]⟩,0⟩ w):=by
 have HN:=Lib.hid (OneN.new ⟨1,0,⟨#[]⟩,⟨#[]⟩,0⟩ w)
 go_enter func73,ntmps73
 go_wp2
 go_ret
 exact HN.out
theorem m8 (w:World):Calls prog 74 #[] w (OneN ⟨2,0,⟨#[]⟩,⟨#[]⟩,0⟩ w):=by
 have HN:=Lib.hid (OneN.new ⟨2,0,⟨#[]⟩,⟨#[]⟩,0⟩ w)
 go_enter func74,ntmps74
 go_wp2
 go_ret
 exact HN.out
theorem lV:(prog.info? 57).map (fun i=>(i.zero,i.size,i.bytes))=some (some (.agg #[.int .i64 0,.int .i64 0,.string ⟨#[]⟩,.string ⟨#[]⟩,.int .i64 0]),5,56):=by kernel_rfl
theorem Ap (g q:Nat):(⟨g,0,none⟩:Addr).add q=⟨g,q,none⟩:=by
 unfold Addr.add
 split
 · rename_i h;rw[h]
 · rw[Nat.zero_add]
theorem nK:∀(ts:List Nd) (i j:Nat),j<5→(cz ts)[i*5+j]? =ts[i]?.bind fun x=>x.cells[j]? :=by
 intro ts
 induction ts with
 | nil=>intro i j _;simp[cz]
 | cons x ts ih=>
   intro i j hj;have e:cz (x::ts)=x.cells++cz ts:=by simp[cz]
   have hl:x.cells.length=5:=rfl;rw[e];cases i with
   | zero=>rw[List.getElem?_append_left (by omega)];simp
   | succ i=>
     rw[List.getElem?_append_right (by omega),hl,show (i+1)*5+j-5=i*5+j by omega,ih i j hj]
     simp
theorem vf:∀ts:List Nd,(cz ts).length=ts.length*5:=by
 intro ts
 induction ts with
 | nil=>rfl
 | cons x ts ih=>
   have e:cz (x::ts)=x.cells++cz ts:=by simp[cz]
   have hl:x.cells.length=5:=rfl;rw[e,aE,ih,hl,aw];omega
theorem iW (a b:List Nd):cz (a++b)=cz a++cz b:=by simp[cz]
theorem r7 {w:World} {g:Nat} {ts:List Nd} (h:NodesAt w g ts) (j:Nat) (u:Value) (hj:(cz ts)[j]? =some u):w.cell? ⟨g,j,none⟩=some u:=by
 have e:j=j / 5*5+j % 5:=by omega
 rw[e,nK _ _ _ (by omega)] at hj;obtain ⟨x,hx,hu⟩:=Option.bind_eq_some_iff.1 hj;have:=h _ x hx (j % 5) (by omega);rw[←e] at this;rw[this];exact hu
theorem ju {w:World} {g:Nat} {ts:List Nd} (h:∀j,j<ts.length*5→w.cell? ⟨g,j,none⟩=(cz ts)[j]?):NodesAt w g ts:=by
 intro i x hx j hj;have hl:i<ts.length:=(List.getElem?_eq_some_iff.1 hx).1;rw[h (i*5+j) (by omega),nK _ _ _ hj,hx];rfl
theorem oK (ts:List Nd):∀u∈cz ts,u.oneCell'=true:=by
 intro u hu;obtain ⟨x,-,hx⟩:=List.mem_flatMap.1 hu;simp only[Nd.cells,List.mem_cons,List.not_mem_nil,or_false] at hx;rcases hx with rfl | rfl | rfl | rfl | rfl <;> rfl
structure NDB (S:Nat) (w:World) (x:Nd) (n:Int) (W:World):Prop where
 bx:W.heap[S]? =some (.cells #[.int .i64 x.op,.int .i64 x.sort,.string x.name,.string x.num,.int .i64 n] 57 (0,0))
 bel:Below S w W
theorem NDB.far {S:Nat} {w:World} {x:Nd} {n:Int} {W W':World} (h:NDB S w x n W) (hb:Below W.heap.size W W'):NDB S w x n W':=
 ⟨(hb.block _ (ar h.bx)).trans h.bx,h.bel.trans (hb.mono (aL (ar h.bx)))⟩
theorem NDB.grow {S:Nat} {w:World} {x:Nd} {n:Int} {W W':World} {b:Option Nat} (h:NDB S w x n W) (hg:W.grownBy W' b) (hb:∀k,b=some k→S<k):NDB S w x n W':=
 ⟨(hg.block _ (ar h.bx) (fun e=>by have:=hb S e.symm;omega)).trans h.bx,h.bel.grown hg (aL (ar h.bx)) (fun k e=>by have:=hb k e;omega)⟩
def Kds (w:World) (ak:Option Addr) (gk:Nat) (L:List (List Nd)):Prop:=
 (L.length≠0→ak=some ⟨gk,0,none⟩)∧gk<w.heap.size∧∀j t,L[j]? =some t→∃g c,w.cell? ⟨gk,j,none⟩=some (.slice (some ⟨g,0,none⟩) t.length c)∧NodesAt w g t∧g<w.heap.size
theorem Kds.far {w w':World} {ak:Option Addr} {gk:Nat} {L:List (List Nd)} (h:Kds w ak gk L) (hb:Below w.heap.size w w'):Kds w' ak gk L:=
 ⟨h.1,aC h.2.1 hb.size,fun j t ht=>let ⟨g,c,h1,h2,h3⟩:=h.2.2 j t ht;⟨g,c,(hb.cell (p:=⟨gk,j,none⟩) h.2.1).trans h1,h2.below hb h3,aC h3 hb.size⟩⟩
theorem nL {L:List (List Nd)} {j:Nat} (h:j<L.length):(L.take (j+1)).flatten=(L.take j).flatten++L[j]:=by
 rw[List.take_add_one,ay h,List.flatten_append];simp
theorem aX {w w':World} {b:Nat} {e:TypeId} {z:Nat} {v:Value} {n:Nat} {xs:List Value} (h:w.ownsRow b e z v n xs) (hb:∀g,v.ownBlock=some g→w'.heap[g]? =w.heap[g]?):w'.ownsRow b e z v n xs:=by
 obtain ⟨hl,h0 | ⟨g,cap,cur,hvv,hg,hh,r⟩⟩:=h
 · exact ⟨hl,.inl h0⟩
 · exact ⟨hl,.inr ⟨g,cap,cur,hvv,hg,by rw[hb g (by rw[hvv];rfl)];exact hh,r⟩⟩
theorem take_one {α:Type} {L:List α} {j:Nat} (h:j<L.length):L.take (j+1)=L.take j++[L[j]]:=by
 rw[List.take_add_one,ay h];rfl
theorem jI {fn:Func} {t u:Tmp} {a:Act} {w2:World} {R:Nat} {s E:Int} {b:Bool} {num:ByteArray} {k v:Value} {post:Ending→World→Prop} (hres:fn.results=#[.cell t 24,.tmp u]) (hd:a.defers=[]) (ht:a.tmps.getD t undef=.pointer (some ⟨R,0,none⟩)) (hu:a.tmps.getD u undef=.int .i64 E)
    (hk:∃ak nk ck,k=.slice ak nk ck) (hv:∃av nv cv,v=.slice av nv cv)
    (hR:w2.heap[R]? =some (.cells #[.int .i64 s,.bool b,.string num,k,v] 24 (0,0))) (h:post (.returned (.tuple #[bh s b num k v,.int .i64 E])) w2):
    bodyPost prog fn post .ret a w2:=by
 obtain ⟨ak,nk,ck,rfl⟩:=hk;obtain ⟨av,nv,cv,rfl⟩:=hv;have k0:=aa hR 0;have k1:=aa hR 1;have k2:=aa hR 2;have k3:=aa hR 3;have k4:=aa hR 4
 simp at k0 k1 k2 k3 k4
 refine bodyPost_ret (v:=.tuple #[bh s b num (.slice ak nk ck) (.slice av nv cv),.int .i64 E]) ?_ hd h;have ht':a.tmps[t]?.getD undef=.pointer (some ⟨R,0,none⟩):=by simpa using ht
 have hu':a.tmps[u]?.getD undef=.int .i64 E:=by simpa using hu
 simp[results,hres,go_sem,bh,ht',hu',k0,k1,k2,k3,k4]
theorem d8 {fn:Func} {t:Tmp} {a:Act} {w2:World} {R:Nat} {s:Int} {b:Bool} {num:ByteArray} {k v:Value} {post:Ending→World→Prop} (hres:fn.results=#[.cell t 24]) (hd:a.defers=[]) (ht:a.tmps.getD t undef=.pointer (some ⟨R,0,none⟩))
    (hk:∃ak nk ck,k=.slice ak nk ck) (hv:∃av nv cv,v=.slice av nv cv)
    (hR:w2.heap[R]? =some (.cells #[.int .i64 s,.bool b,.string num,k,v] 24 (0,0))) (h:post (.returned (bh s b num k v)) w2):
    bodyPost prog fn post .ret a w2:=by
 obtain ⟨ak,nk,ck,rfl⟩:=hk;obtain ⟨av,nv,cv,rfl⟩:=hv;have k0:=aa hR 0;have k1:=aa hR 1;have k2:=aa hR 2;have k3:=aa hR 3;have k4:=aa hR 4
 simp at k0 k1 k2 k3 k4
 refine bodyPost_ret (v:=bh s b num (.slice ak nk ck) (.slice av nv cv)) ?_ hd h;have ht':a.tmps[t]?.getD undef=.pointer (some ⟨R,0,none⟩):=by simpa using ht
 simp[results,hres,go_sem,bh,ht',k0,k1,k2,k3,k4]
def TI (z:Int):ByteArray:=TX (z:Rat)
def Sm (z:Int):Prop:=z.natAbs<10 ^ 50
theorem Sm.ds {z:Int} (h:Sm z):DS 50 (z:Rat):=DS.int h
theorem Sm.sz {z:Int} (h:Sm z):(TI z).size≤104:=DS.sz h.ds
theorem lW (a b:Int):((TI a).toList==(TI b).toList)=decide (a=b):=by
 unfold TI;rw[Br];simp only[Rat.intCast_inj]
theorem r8 {a b:Int} (h:TI a=TI b):a=b:=by
 have:=lW a b;rw[h] at this
 simpa using this.symm
abbrev SRow (S:Nat) (w:World) (u:Value) (ts:List ByteArray):Prop:=w.ownsRow S 9 1 u ts.length (ts.map Value.string)
theorem SRow.far {S:Nat} {w w':World} {u:Value} {ts:List ByteArray} (h:SRow S w u ts) (hb:Below w.heap.size w w'):SRow S w' u ts:=eF h hb fun g hg=>(h.lt g hg).2
theorem SRow.down {S S':Nat} {w:World} {u:Value} {ts:List ByteArray} (h:SRow S w u ts) (hs:S'≤S):SRow S' w u ts:=gV h hs
theorem SRow.cell {S:Nat} {w:World} {u:Value} {ts:List ByteArray} (h:SRow S w u ts) {j:Nat} {t:ByteArray} (hj:ts[j]? =some t):∃g c,u=.slice (some ⟨g,0,none⟩) ts.length c∧w.cell? ⟨g,j,none⟩=some (.string t):=by
 have hl:=(List.getElem?_eq_some_iff.1 hj).1;obtain ⟨g,c,rfl,-⟩:=bP h (by omega);refine ⟨g,c,rfl,?_⟩;have:=World.ownsRow.cells h (g:=g) rfl j (.string t) (by rw[List.getElem?_map,hj];rfl);rwa [Addr.add_lit,Nat.zero_add] at this
theorem SRow.sl {S:Nat} {w:World} {u:Value} {ts:List ByteArray} (h:SRow S w u ts):∃a c,u=.slice a ts.length c:=cR h
theorem SRow.sl3 {S:Nat} {w:World} {u:Value} {ts:List ByteArray} (h:SRow S w u ts):∃a n c,u=.slice a n c:=let ⟨a,c,e⟩:=h.sl;⟨a,_,c,e⟩
structure RRow (w:World) (u:Value) (ts:List ByteArray):Prop where
 sl:∃a c,u=.slice a ts.length c∧(a=none→c=0)∧ts.length≤c
 cell:∀{j:Nat} {t:ByteArray},ts[j]? =some t→∃g o c,u=.slice (some ⟨g,o,none⟩) ts.length c∧w.cell? ⟨g,o+j,none⟩=some (.string t)
theorem RRow.far {w w':World} {u:Value} {ts:List ByteArray} (h:RRow w u ts) (hb:Below w.heap.size w w'):RRow w' u ts:=⟨h.sl,fun hj=>let ⟨g,o,c,e,q⟩:=h.cell hj;⟨g,o,c,e,(hb.cell (World.block_lt_of_cell? _ _ q)).trans q⟩⟩
theorem SRow.rd {S:Nat} {w:World} {u:Value} {ts:List ByteArray} (h:SRow S w u ts):RRow w u ts:=by
 refine ⟨?_,fun hj=>let ⟨g,c,e,q⟩:=h.cell hj;⟨g,0,c,e,by rw[Nat.zero_add];exact q⟩⟩;obtain ⟨hlen,⟨rfl,h0⟩ | ⟨g,cap,cur,rfl,-,-,hc,-⟩⟩:=id h
 · exact ⟨none,0,by rw[h0],fun _=>rfl,by omega⟩
 · exact ⟨some ⟨g,0,none⟩,cap,rfl,(fun e=>by cases e),hc⟩
def kT (l:Arx.L):List ByteArray:=l.map fun p=>TI p.1
def vT (l:Arx.L):List ByteArray:=l.map fun p=>TI p.2
structure AV (S:Nat) (w:World) (d:Int) (l:Arx.L) (k u:Value):Prop where
 ks:SRow S w k (kT l)
 us:SRow S w u (vT l)
 vd:Arx.Vld d l
 sd:Sm d
 sl:∀p∈l,Sm p.1∧Sm p.2
 ln:l.length≤1000
theorem AV.far {S:Nat} {w w':World} {d:Int} {l:Arx.L} {k u:Value} (h:AV S w d l k u) (hb:Below w.heap.size w w'):AV S w' d l k u:=⟨h.ks.far hb,h.us.far hb,h.vd,h.sd,h.sl,h.ln⟩
theorem AV.down {S S':Nat} {w:World} {d:Int} {l:Arx.L} {k u:Value} (h:AV S w d l k u) (hs:S'≤S):AV S' w d l k u:=⟨h.ks.down hs,h.us.down hs,h.vd,h.sd,h.sl,h.ln⟩
theorem AV.form {S:Nat} {w:World} {d:Int} {l:Arx.L} {k u:Value} (h:AV S w d l k u):∃a c a' c',k=.slice a l.length c∧u=.slice a' l.length c':=by
 obtain ⟨a,c,e⟩:=h.ks.sl;obtain ⟨a',c',e'⟩:=h.us.sl;exact ⟨a,c,a',c',by rw[e];simp[kT],by rw[e'];simp[vT]⟩
theorem AV.cell {S:Nat} {w:World} {d:Int} {l:Arx.L} {k u:Value} (h:AV S w d l k u) {j:Nat} (hj:j<l.length):∃g c g' c',k=.slice (some ⟨g,0,none⟩) l.length c∧u=.slice (some ⟨g',0,none⟩) l.length c'∧w.cell? ⟨g,j,none⟩=some (.string (TI l[j].1))∧w.cell? ⟨g',j,none⟩=some (.string (TI l[j].2)):=by
 obtain ⟨g,c,e,hc⟩:=h.ks.cell (j:=j) (t:=TI l[j].1) (by simp[kT,hj]);obtain ⟨g',c',e',hc'⟩:=h.us.cell (j:=j) (t:=TI l[j].2) (by simp[vT,hj]);exact ⟨g,c,g',c',by rw[e];simp[kT],by rw[e'];simp[vT],hc,hc'⟩
structure AR (w:World) (d:Int) (l:Arx.L) (k u:Value):Prop where
 ks:RRow w k (kT l)
 us:RRow w u (vT l)
 vd:Arx.Vld d l
 sd:Sm d
 sl:∀p∈l,Sm p.1∧Sm p.2
 ln:l.length≤1000
theorem AV.rd {S:Nat} {w:World} {d:Int} {l:Arx.L} {k u:Value} (h:AV S w d l k u):AR w d l k u:=⟨h.ks.rd,h.us.rd,h.vd,h.sd,h.sl,h.ln⟩
theorem AR.far {w w':World} {d:Int} {l:Arx.L} {k u:Value} (h:AR w d l k u) (hb:Below w.heap.size w w'):AR w' d l k u:=⟨h.ks.far hb,h.us.far hb,h.vd,h.sd,h.sl,h.ln⟩
theorem AR.form {w:World} {d:Int} {l:Arx.L} {k u:Value} (h:AR w d l k u):∃a c a' c',k=.slice a l.length c∧u=.slice a' l.length c':=by
 obtain ⟨a,c,e,-⟩:=h.ks.sl;obtain ⟨a',c',e',-⟩:=h.us.sl;exact ⟨a,c,a',c',by rw[e];simp[kT],by rw[e'];simp[vT]⟩
theorem AR.cell {w:World} {d:Int} {l:Arx.L} {k u:Value} (h:AR w d l k u) {j:Nat} (hj:j<l.length):∃g o c g' o' c',k=.slice (some ⟨g,o,none⟩) l.length c∧u=.slice (some ⟨g',o',none⟩) l.length c'∧w.cell? ⟨g,o+j,none⟩=some (.string (TI l[j].1))∧w.cell? ⟨g',o'+j,none⟩=some (.string (TI l[j].2)):=by
 obtain ⟨g,o,c,e,hc⟩:=h.ks.cell (j:=j) (t:=TI l[j].1) (by simp[kT,hj]);obtain ⟨g',o',c',e',hc'⟩:=h.us.cell (j:=j) (t:=TI l[j].2) (by simp[vT,hj]);exact ⟨g,o,c,g',o',c',by rw[e];simp[kT],by rw[e'];simp[vT],hc,hc'⟩
end Go.Proofs.YtpkfnnkbfphfbaaGreatDoor.Se

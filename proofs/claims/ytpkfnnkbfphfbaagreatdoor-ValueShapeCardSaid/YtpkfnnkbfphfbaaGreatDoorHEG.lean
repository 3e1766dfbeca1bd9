import Derived.Test.YtpkfnnkbfphfbaaGreatDoorHED
import Derived.Test.YtpkfnnkbfphfbaaGreatDoorHEK
set_option maxRecDepth 100000
set_option maxHeartbeats 40000000
open Go.Lib (hid)
namespace Go.Proofs.YtpkfnnkbfphfbaaGreatDoor.Se
open Go.RowKit Nmx
abbrev Ar (R:Nat) (W:World):Prop:=W.heap[R]? =some (.cells #[.int .i64 0,.bool false,.string ⟨#[]⟩,.slice none 0 0,.slice none 0 0] 24 (0,0))
structure JC (td:ByteArray) (k u:Value) (ts us:List ByteArray) (w:World) (p4 p7 p8 p9 p10:Bool) (v4 v7 v8 v9:Value) (W:World):Prop where
 ab:eX w.heap.size td k u W
 rb:Ar (w.heap.size+1) W
 bel:Below w.heap.size w W
 c4:p4=true→SRow w.heap.size W v4 ts
 c7:p7=true→SRow w.heap.size W v7 us∧∀g,v4.ownBlock=some g→v7.ownBlock≠some g
 b8:p8=true→v8=.agg #[.int .i64 4,.bool false,.string td,v4,v7]
 b9:p9=true→∃B,v9=.pointer (some ⟨B,0,none⟩)∧w.heap.size+1<B∧if p10=true then eX B td v4 v7 W else Ar B W
theorem JC.far {td:ByteArray} {k u:Value} {ts us:List ByteArray} {w:World} {p4 p7 p8 p9 p10:Bool} {v4 v7 v8 v9:Value} {W W':World} (h:JC td k u ts us w p4 p7 p8 p9 p10 v4 v7 v8 v9 W) (hb:Below W.heap.size W W'):JC td k u ts us w p4 p7 p8 p9 p10 v4 v7 v8 v9 W':=by
 refine ⟨(hb.block _ (ar h.ab)).trans h.ab,(hb.block _ (ar h.rb)).trans h.rb,h.bel.trans (hb.mono h.bel.size),fun e=>(h.c4 e).far hb,fun e=>⟨(h.c7 e).1.far hb,(h.c7 e).2⟩,h.b8,fun e=>?_⟩;obtain ⟨B,h1,h2,h3⟩:=h.b9 e;refine ⟨B,h1,h2,?_⟩
 split at h3
 · rw[aF (by assumption)];exact (hb.block _ (ar h3)).trans h3
 · rw[aB (by assumption)];exact (hb.block _ (ar h3)).trans h3
theorem bU {S:Nat} {w:World} {u:Value} {ts:List ByteArray} (h:SRow S w u ts) {g:Nat} (hg:u.ownBlock=some g):S≤g∧g<w.heap.size:=h.lt g hg
theorem bY {S g R:Nat} {w:World} {u:Value} {ts:List ByteArray} {cs:Array Value} {f:Nat×Nat} (h:SRow S w u ts) (hg:u.ownBlock=some g) (hR:w.heap[R]? =some (.cells cs 24 f)):g≠R:=by
 rintro rfl;obtain ⟨cur,hc⟩:=rE h hg;rw[hR] at hc;cases hc
theorem As {B:Nat} {W:World} {cs:Array Value} (h:W.heap[B]? =some (.cells cs 24 (0,0))) (td:ByteArray) (k u:Value):
    (cs.size=5→eX B td k u (((((W.setCell ⟨B,0,none⟩ (.int .i64 4)).setCell ⟨B,1,none⟩ (.bool false)).setCell ⟨B,2,none⟩ (.string td)).setCell ⟨B,3,none⟩ k).setCell ⟨B,4,none⟩ u))∧
    (∀b,b≠B→(((((W.setCell ⟨B,0,none⟩ (.int .i64 4)).setCell ⟨B,1,none⟩ (.bool false)).setCell ⟨B,2,none⟩ (.string td)).setCell ⟨B,3,none⟩ k).setCell ⟨B,4,none⟩ u).heap[b]? =W.heap[b]?)∧
    (∀{S w},Below S w W→S≤B→Below S w (((((W.setCell ⟨B,0,none⟩ (.int .i64 4)).setCell ⟨B,1,none⟩ (.bool false)).setCell ⟨B,2,none⟩ (.string td)).setCell ⟨B,3,none⟩ k).setCell ⟨B,4,none⟩ u)):=by
 refine ⟨fun hs=>?_,fun b hb=>?_,fun {S w} hbl hS=>((((hbl.setCell hS _).setCell hS _).setCell hS _).setCell hS _).setCell hS _⟩
 · obtain ⟨l,rfl⟩:∃l:List Value,cs=l.toArray:=⟨cs.toList,by simp⟩
   match l,hs with
   | [a0,a1,a2,a3,a4],_=>exact heap_set (heap_set (heap_set (heap_set (heap_set h 0 _) 1 _) 2 _) 3 _) 4 _
 · exact (aG _ _ _ _ hb).trans ((aG _ _ _ _ hb).trans ((aG _ _ _ _ hb).trans ((aG _ _ _ _ hb).trans (aG _ _ _ _ hb))))
structure RB (S R B:Nat) (td:ByteArray) (bk bu k u:Value) (ts us:List ByteArray) (w W:World):Prop where
 rb:Ar R W
 bx:eX B td bk bu W
 kr:SRow S W k ts
 vr:SRow S W u us
 ap:∀g,k.ownBlock=some g→u.ownBlock≠some g
 bel:Below S w W
 ne:R≠B
 hR:S≤R
 hB:S≤B
theorem RB.blocks {S R B:Nat} {td:ByteArray} {bk bu k u:Value} {ts us:List ByteArray} {w W W':World} (h:RB S R B td bk bu k u ts us w W) (hb:∀b,b<W.heap.size→W'.heap[b]? =W.heap[b]?) (hbel:Below S w W'):RB S R B td bk bu k u ts us w W':=
 ⟨(hb _ (ar h.rb)).trans h.rb,(hb _ (ar h.bx)).trans h.bx,aX h.kr fun g hg=>hb g (bU h.kr hg).2,aX h.vr fun g hg=>hb g (bU h.vr hg).2,h.ap,hbel,h.ne,h.hR,h.hB⟩
theorem RB.far {S R B:Nat} {td:ByteArray} {bk bu k u:Value} {ts us:List ByteArray} {w W W':World} (h:RB S R B td bk bu k u ts us w W) (hb:Below W.heap.size W W'):RB S R B td bk bu k u ts us w W':=
 h.blocks (fun b hb'=>hb.block b hb') (h.bel.trans (hb.mono (aP h.hR (aL (ar h.rb)))))
theorem RB.kop {S R B:Nat} {td:ByteArray} {bk bu k u k':Value} {ts ts' us:List ByteArray} {w W W':World} (h:RB S R B td bk bu k u ts us w W) (ho:SRow S W' k' ts') (hg:W.grownBy W' k.ownBlock) (hn:∀g,k'.ownBlock=some g→k.ownBlock=some g∨W.heap.size≤g):RB S R B td bk bu k' u ts' us w W':=by
 have hs:S≤W.heap.size:=aP h.hR (aL (ar h.rb));refine ⟨(hg.block _ (ar h.rb) fun e=>bY h.kr e.symm h.rb rfl).trans h.rb,(hg.block _ (ar h.bx) fun e=>bY h.kr e.symm h.bx rfl).trans h.bx,ho,aX h.vr fun g hg'=>hg.block g (bU h.vr hg').2 fun e=>h.ap g e.symm hg',fun g hk hu=>?_,h.bel.grown hg hs fun k e=>(bU h.kr e).1,h.ne,h.hR,h.hB⟩;rcases hn g hk with e | e
 · exact h.ap g e hu
 · have:=(bU h.vr hu).2;omega
theorem RB.vop {S R B:Nat} {td:ByteArray} {bk bu k u u':Value} {ts us us':List ByteArray} {w W W':World} (h:RB S R B td bk bu k u ts us w W) (ho:SRow S W' u' us') (hg:W.grownBy W' u.ownBlock) (hn:∀g,u'.ownBlock=some g→u.ownBlock=some g∨W.heap.size≤g):RB S R B td bk bu k u' ts us' w W':=by
 have hs:S≤W.heap.size:=aP h.hR (aL (ar h.rb));refine ⟨(hg.block _ (ar h.rb) fun e=>bY h.vr e.symm h.rb rfl).trans h.rb,(hg.block _ (ar h.bx) fun e=>bY h.vr e.symm h.bx rfl).trans h.bx,aX h.kr fun g hg'=>hg.block g (bU h.kr hg').2 fun e=>h.ap g hg' e.symm,ho,fun g hk hu=>?_,h.bel.grown hg hs fun k e=>(bU h.vr e).1,h.ne,h.hR,h.hB⟩;rcases hn g hu with e | e
 · exact h.ap g hk e
 · have:=(bU h.kr hk).2;omega
theorem RB.s3 {S R B:Nat} {td:ByteArray} {bk bu k u:Value} {ts us:List ByteArray} {w W:World} (h:RB S R B td bk bu k u ts us w W) (v:Value):RB S R B td v bu k u ts us w (W.setCell ⟨B,3,none⟩ v):=by
 have hne:∀b,b≠B→(W.setCell ⟨B,3,none⟩ v).heap[b]? =W.heap[b]? :=fun b hb=>aG _ _ _ _ hb
 exact ⟨(hne _ h.ne).trans h.rb,heap_set h.bx 3 v,aX h.kr fun g hg=>hne g (bY h.kr hg h.bx),aX h.vr fun g hg=>hne g (bY h.vr hg h.bx),h.ap,h.bel.setCell h.hB _,h.ne,h.hR,h.hB⟩
theorem RB.s4 {S R B:Nat} {td:ByteArray} {bk bu k u:Value} {ts us:List ByteArray} {w W:World} (h:RB S R B td bk bu k u ts us w W) (v:Value):RB S R B td bk v k u ts us w (W.setCell ⟨B,4,none⟩ v):=by
 have hne:∀b,b≠B→(W.setCell ⟨B,4,none⟩ v).heap[b]? =W.heap[b]? :=fun b hb=>aG _ _ _ _ hb
 exact ⟨(hne _ h.ne).trans h.rb,heap_set h.bx 4 v,aX h.kr fun g hg=>hne g (bY h.kr hg h.bx),aX h.vr fun g hg=>hne g (bY h.vr hg h.bx),h.ap,h.bel.setCell h.hB _,h.ne,h.hR,h.hB⟩
theorem RB.hs {S R B:Nat} {td:ByteArray} {bk bu k u:Value} {ts us:List ByteArray} {w W:World} (h:RB S R B td bk bu k u ts us w W):S≤W.heap.size:=aP h.hR (aL (ar h.rb))
theorem nO {α β:Type} (f:α→β) (l:List α) (i:Nat):(l.eraseIdx i).map f=(l.map f).eraseIdx i:=by
 rw[List.eraseIdx_eq_take_drop_succ,List.eraseIdx_eq_take_drop_succ,List.map_append,List.map_take,List.map_drop]
theorem uf {α β:Type} (f:α→β) (l:List α) (i:Nat) (x:α):(l.take i++x::l.drop i).map f=(l.map f).take i++f x::(l.map f).drop i:=by
 rw[List.map_append,List.map_cons,List.map_take,List.map_drop]
theorem Au {l:Arx.L} {i:Nat} {x v:Int} (hi:i<l.length) (h:l[i].1=x):kT (l.set i (x,v))=kT l:=by
 unfold kT;rw[List.map_set];have e:TI x=(l.map fun p=>TI p.1)[i]'(by simpa using hi):=by simp[h]
 rw[e,List.set_getElem_self]
theorem Av (l:Arx.L) (i:Nat) (x v:Int):vT (l.set i (x,v))=(vT l).set i (TI v):=List.map_set
theorem RB.drew {S R B:Nat} {td:ByteArray} {bk bu k u:Value} {ts us:List ByteArray} {w W:World} (h:RB S R B td bk bu k u ts us w W):RB S R B td bk bu k u ts us w W.drew:=h.blocks (fun _ _=>rfl) h.bel.drew
theorem RB.fin {S R B:Nat} {td:ByteArray} {bk bu k u:Value} {ts us:List ByteArray} {w W:World} (h:RB S R B td bk bu k u ts us w W):
    eX R td k u (((((W.setCell ⟨R,0,none⟩ (.int .i64 4)).setCell ⟨R,1,none⟩ (.bool false)).setCell ⟨R,2,none⟩ (.string td)).setCell ⟨R,3,none⟩ k).setCell ⟨R,4,none⟩ u)∧
    SRow S (((((W.setCell ⟨R,0,none⟩ (.int .i64 4)).setCell ⟨R,1,none⟩ (.bool false)).setCell ⟨R,2,none⟩ (.string td)).setCell ⟨R,3,none⟩ k).setCell ⟨R,4,none⟩ u) k ts∧
    SRow S (((((W.setCell ⟨R,0,none⟩ (.int .i64 4)).setCell ⟨R,1,none⟩ (.bool false)).setCell ⟨R,2,none⟩ (.string td)).setCell ⟨R,3,none⟩ k).setCell ⟨R,4,none⟩ u) u us∧
    Below S w (((((W.setCell ⟨R,0,none⟩ (.int .i64 4)).setCell ⟨R,1,none⟩ (.bool false)).setCell ⟨R,2,none⟩ (.string td)).setCell ⟨R,3,none⟩ k).setCell ⟨R,4,none⟩ u):=by
 obtain ⟨s1,s2,s3⟩:=As h.rb td k u;exact ⟨s1 rfl,aX h.kr fun g hg=>s2 g (bY h.kr hg h.rb),aX h.vr fun g hg=>s2 g (bY h.vr hg h.rb),s3 h.bel h.hR⟩
structure JR (S R B:Nat) (td:ByteArray) (K V:Value) (ts ts' us us':List ByteArray) (t1 t2:ByteArray) (w:World) (p4 p5 p10 p11 p13 p15:Bool) (v4 v5 v10 v11:Value) (W:World):Prop where
 core:RB S R B td (cond p13 v5 K) (cond p15 v11 V) (cond p5 v5 K) (cond p11 v11 V) (cond p5 ts' ts) (cond p11 us' us) w W
 b4:p4=true→p5=false→∃b,v4=.slice (some ⟨b,0,none⟩) 1 1∧W.heap[b]? =some (.cells #[.string t1] 9 (0,0))∧K.ownBlock≠some b
 b10:p10=true→p11=false→∃b,v10=.slice (some ⟨b,0,none⟩) 1 1∧W.heap[b]? =some (.cells #[.string t2] 9 (0,0))∧V.ownBlock≠some b∧(cond p5 v5 K).ownBlock≠some b
theorem JR.far {S R B:Nat} {td:ByteArray} {K V:Value} {ts ts' us us':List ByteArray} {t1 t2:ByteArray} {w:World} {p4 p5 p10 p11 p13 p15:Bool} {v4 v5 v10 v11:Value} {W W':World} (h:JR S R B td K V ts ts' us us' t1 t2 w p4 p5 p10 p11 p13 p15 v4 v5 v10 v11 W) (hb:Below W.heap.size W W'):JR S R B td K V ts ts' us us' t1 t2 w p4 p5 p10 p11 p13 p15 v4 v5 v10 v11 W':=by
 refine ⟨h.core.far hb,fun e1 e2=>?_,fun e1 e2=>?_⟩
 · obtain ⟨b,h1,h2,h3⟩:=h.b4 e1 e2;exact ⟨b,h1,(hb.block _ (ar h2)).trans h2,h3⟩
 · obtain ⟨b,h1,h2,h3⟩:=h.b10 e1 e2;exact ⟨b,h1,(hb.block _ (ar h2)).trans h2,h3⟩
theorem JR.k5 {S R B:Nat} {td:ByteArray} {K V:Value} {ts ts' us us':List ByteArray} {t1 t2:ByteArray} {w:World} {p4 p5 p10 p11 p13 p15:Bool} {v4 v5 v10 v11:Value} {W W':World} (h:JR S R B td K V ts ts' us us' t1 t2 w p4 p5 p10 p11 p13 p15 v4 v5 v10 v11 W)
    (e5:p5=false) (e13:p13=false) {v:Value} (ho:SRow S W' v ts') (hg:W.grownBy W' K.ownBlock) (hn:∀g,v.ownBlock=some g→K.ownBlock=some g∨W.heap.size≤g):JR S R B td K V ts ts' us us' t1 t2 w p4 true p10 p11 p13 p15 v4 v v10 v11 W':=by
 subst e5 e13;refine ⟨h.core.kop ho hg hn,fun _ e=>(by cases e),fun e1 e2=>?_⟩;obtain ⟨b,h1,h2,h3,h4⟩:=h.b10 e1 e2;refine ⟨b,h1,(hg.block _ (ar h2) fun e=>h4 e.symm).trans h2,h3,fun e=>?_⟩;rcases hn b e with e | e
 · exact h4 e
 · have:=ar h2;omega
theorem JR.v11 {S R B:Nat} {td:ByteArray} {K V:Value} {ts ts' us us':List ByteArray} {t1 t2:ByteArray} {w:World} {p4 p5 p10 p11 p13 p15:Bool} {v4 v5 v10 v11:Value} {W W':World} (h:JR S R B td K V ts ts' us us' t1 t2 w p4 p5 p10 p11 p13 p15 v4 v5 v10 v11 W)
    (e5:p5=true) (e11:p11=false) (e15:p15=false) {v:Value} (ho:SRow S W' v us') (hg:W.grownBy W' V.ownBlock) (hn:∀g,v.ownBlock=some g→V.ownBlock=some g∨W.heap.size≤g):JR S R B td K V ts ts' us us' t1 t2 w p4 p5 p10 true p13 p15 v4 v5 v10 v W':=by
 subst e5 e11 e15;exact ⟨h.core.vop ho hg hn,fun _ e=>(by cases e),fun _ e=>(by cases e)⟩
theorem JR.s13 {S R B:Nat} {td:ByteArray} {K V:Value} {ts ts' us us':List ByteArray} {t1 t2:ByteArray} {w:World} {p4 p5 p10 p11 p13 p15:Bool} {v4 v5 v10 v11:Value} {W:World} (h:JR S R B td K V ts ts' us us' t1 t2 w p4 p5 p10 p11 p13 p15 v4 v5 v10 v11 W)
    (e5:p5=true) (e11:p11=true):JR S R B td K V ts ts' us us' t1 t2 w p4 p5 p10 p11 true p15 v4 v5 v10 v11 (W.setCell ⟨B,3,none⟩ v5):=by
 subst e5 e11;exact ⟨h.core.s3 v5,fun _ e=>(by cases e),fun _ e=>(by cases e)⟩
theorem JR.s15 {S R B:Nat} {td:ByteArray} {K V:Value} {ts ts' us us':List ByteArray} {t1 t2:ByteArray} {w:World} {p4 p5 p10 p11 p13 p15:Bool} {v4 v5 v10 v11:Value} {W:World} (h:JR S R B td K V ts ts' us us' t1 t2 w p4 p5 p10 p11 p13 p15 v4 v5 v10 v11 W)
    (e5:p5=true) (e11:p11=true):JR S R B td K V ts ts' us us' t1 t2 w p4 p5 p10 p11 p13 true v4 v5 v10 v11 (W.setCell ⟨B,4,none⟩ v11):=by
 subst e5 e11;exact ⟨h.core.s4 v11,fun _ e=>(by cases e),fun _ e=>(by cases e)⟩
theorem wq {d x v:Int} {l:Arx.L} {k u:Value} (w:World) (hE:Env w) (h:AR w d l k u) (hx:Sm x) (hv:Sm v) (hl:l.length<1000):
    Calls Tryz.prog 42 #[bh 4 false (TI d) k u,.string (TI x),.string (TI v)] w fun e w'=>∃k' u',e=.returned (bh 4 false (TI d) k' u')∧AV w.heap.size w' d (Arx.stA d l x v) k' u'∧Below w.heap.size w w':=by
 have hln:=h.ln;have HL:=hid hl;clear hl;have HCK:=hid fun (W:World) (hW:Below w.heap.size w W)=>qg W (h.ks.far hW) (by rw[kT,List.length_map];omega)
 have HCV:=hid fun (W:World) (hW:Below w.heap.size w W)=>qg W (h.us.far hW) (by rw[vT,List.length_map];omega)
 have HH:=hid h;have HE:=hid hE;obtain ⟨a,c,a',c',rfl,rfl⟩:=h.form;unfold bh;obtain ⟨td,htd⟩:∃t,TI d=t:=⟨_,rfl⟩
 rw[htd];have HTD:=hid htd;have hA:=aO w (.cells #[.int .i64 4,.bool false,.string td,.slice a l.length c,.slice a' l.length c'] 24);have hA2:=aO (w.alloc (.cells #[.int .i64 4,.bool false,.string td,.slice a l.length c,.slice a' l.length c'] 24)) (.cells #[.int .i64 0,.bool false,.string ⟨#[]⟩,.slice none 0 0,.slice none 0 0] 24);have b1:=(hA2.block _ (ar (aq w (.cells #[.int .i64 4,.bool false,.string td,.slice a l.length c,.slice a' l.length c'] 24)))).trans (aq w (.cells #[.int .i64 4,.bool false,.string td,.slice a l.length c,.slice a' l.length c'] 24));have b2:=aq (w.alloc (.cells #[.int .i64 4,.bool false,.string td,.slice a l.length c,.slice a' l.length c'] 24)) (.cells #[.int .i64 0,.bool false,.string ⟨#[]⟩,.slice none 0 0,.slice none 0 0] 24);rw[show (w.alloc (.cells #[.int .i64 4,.bool false,.string td,.slice a l.length c,.slice a' l.length c'] 24)).heap.size=w.heap.size+1 by simp] at b2;have HB:=hid (hA.trans (hA2.mono hA.size));have HX1:=hid b1;have HX2:=hid b2;obtain ⟨n,hn⟩:∃n,l.length=n:=⟨_,rfl⟩
 rw[hn] at hln HB HX1 HX2 HCK HCV;rw[hn];have HN:=hid hn;clear hA hA2 b1 b2 h hE htd hn;obtain ⟨tx,htx⟩:∃t,TI x=t:=⟨_,rfl⟩
 obtain ⟨tv,htv⟩:∃t,TI v=t:=⟨_,rfl⟩
 rw[htx,htv];have HTX:=hid htx;have HTV:=hid htv;clear htx htv
 go_enter Tryz.func42,Tryz.ntmps42
 go_upto_region 1 with fail
 generalize hw1:World.alloc _ _=w1 at *
 go_cut [7] (fun p wx=>∃B v4 v7 v8,p=.pointer (some ⟨B,0,none⟩)∧JC td (.slice a n c) (.slice a' n c') (kT l) (vT l) w true true true true true v4 v7 v8 (.pointer (some ⟨B,0,none⟩)) wx)
 case first=>
  refine cE [[],[0],[],[2],[2,3],[],[5],[2,3,4,5,6],[0,1,2,3,4,5,6,7],[],[0,1,2,3,4,5,6,7,8,9]] (fun x L W=>JC td (.slice a n c) (.slice a' n c') (kT l) (vT l) w (L 4) (L 7) (L 8) (L 9) (L 10) (x 4) (x 7) (x 8) (x 9) W) ?_
  iterate 4
   apply bf
   · intro x;go_simp;done
   · intro x L W R hJ h1 h2 h3 hR;have z2:=aa hJ.ab 2;have z3:=aa hJ.ab 3;have z4:=aa hJ.ab 4;unfold aR
     go_simp
     simp only[aJ];exact hR _ hJ
   simp only[Act.put,ac,ag,ah]
  apply bI
  · intro x;go_simp;done
  · intro x L W R hJ h1 h2 h3 hR
    skip
    unfold aR
    go_simp
    simp only[aJ];refine (HCK.out W hJ.bel).mono ?_;rintro e w' ⟨v,rfl,ho,hb⟩;have h7:L 7=false:=h3 7 (show (4:Nat)∈([2,3,4,5,6]:List Nat) by decide);have h8:L 8=false:=h3 8 (show (4:Nat)∈([0,1,2,3,4,5,6,7]:List Nat) by decide);have h10:L 10=false:=h3 10 (show (4:Nat)∈([0,1,2,3,4,5,6,7,8,9]:List Nat) by decide);have hj:=hJ.far hb
    exact ⟨v,rfl,hR _ _ ⟨hj.ab,hj.rb,hj.bel,fun _=>ho.down hJ.bel.size,(fun e=>by have e':L 7=true:=e;rw[h7] at e';cases e'),(fun e=>by have e':L 8=true:=e;rw[h8] at e';cases e'),fun e=>by
        obtain ⟨B,q1,q2,q3⟩:=hj.b9 e;rw[h10] at q3
        exact ⟨B,q1,q2,by show (if L 10=true then _ else _);rw[h10];exact q3⟩⟩⟩
  simp only[Act.put,ac,ag,ah,aw,aN,Nat.zero_add,Nat.reduceAdd]
  iterate 2
   apply bf
   · intro x;go_simp;done
   · intro x L W R hJ h1 h2 h3 hR;have z2:=aa hJ.ab 2;have z3:=aa hJ.ab 3;have z4:=aa hJ.ab 4;unfold aR
     go_simp
     simp only[aJ];exact hR _ hJ
   simp only[Act.put,ac,ag,ah]
  apply bI
  · intro x;go_simp;done
  · intro x L W R hJ h1 h2 h3 hR
    skip
    unfold aR
    go_simp
    simp only[aJ];have hr4:=hJ.c4 (h1 4 (show (4:Nat)∈([2,3,4,5,6]:List Nat) by decide));refine (HCV.out W hJ.bel).mono ?_;rintro e w' ⟨v,rfl,ho,hb⟩;have h8:L 8=false:=h3 8 (show (7:Nat)∈([0,1,2,3,4,5,6,7]:List Nat) by decide);have h10:L 10=false:=h3 10 (show (7:Nat)∈([0,1,2,3,4,5,6,7,8,9]:List Nat) by decide);have hj:=hJ.far hb
    refine ⟨v,rfl,hR _ _ ⟨hj.ab,hj.rb,hj.bel,hj.c4,fun _=>⟨ho.down hJ.bel.size,fun g hg hg'=>?_⟩,(fun e=>by have e':L 8=true:=e;rw[h8] at e';cases e'),fun e=>by
        obtain ⟨B,q1,q2,q3⟩:=hj.b9 e;rw[h10] at q3
        exact ⟨B,q1,q2,by show (if L 10=true then _ else _);rw[h10];exact q3⟩⟩⟩
    have:=(bU hr4 hg).2;have:=(bU ho hg').1
    omega
  simp only[Act.put,ac,ag,ah,aw,aN,Nat.zero_add,Nat.reduceAdd];apply bI
  · intro x;go_simp;done
  · intro x L W R hJ h1 h2 h3 hR;have hr4:=hJ.c4 (h1 4 (show (4:Nat)∈([0,1,2,3,4,5,6,7]:List Nat) by decide));have hr7:=hJ.c7 (h1 7 (show (7:Nat)∈([0,1,2,3,4,5,6,7]:List Nat) by decide));obtain ⟨a4,c4,e4⟩:=hr4.sl;obtain ⟨a7,c7,e7⟩:=hr7.1.sl;rw[e4,e7];have HJ:=hid hJ;clear hr4 hr7 hJ;unfold aR
    go_simp
    simp only[aJ];exact hR _ _ ⟨HJ.out.ab,HJ.out.rb,HJ.out.bel,HJ.out.c4,HJ.out.c7,fun _=>(by show Value.agg #[.int .i64 4,.bool false,.string td,.slice a4 (kT l).length c4,.slice a7 (vT l).length c7]=.agg #[.int .i64 4,.bool false,.string td,x 4,x 7];rw[e4,e7]),HJ.out.b9⟩
  simp only[Act.put,ac,ag,ah,aw,aN,Nat.zero_add,Nat.reduceAdd];apply bI
  · intro x;go_simp;done
  · intro x L W R hJ h1 h2 h3 hR
    skip
    unfold aR
    go_simp
    simp only[aJ];have h10:L 10=false:=h3 10 (show (9:Nat)∈([0,1,2,3,4,5,6,7,8,9]:List Nat) by decide);have hb:=aO W (.cells #[.int .i64 0,.bool false,.string ⟨#[]⟩,.slice none 0 0,.slice none 0 0] 24);have hj:=hJ.far hb;exact hR _ _ ⟨hj.ab,hj.rb,hj.bel,hj.c4,hj.c7,hj.b8,fun _=>⟨_,rfl,ar hJ.rb,by show (if L 10=true then _ else _);rw[h10];exact aq W _⟩⟩
  simp only[Act.put,ac,ag,ah,aw,aN,Nat.zero_add,Nat.reduceAdd];apply bI
  · intro x;go_simp;done
  · intro x L W R hJ h1 h2 h3 hR;obtain ⟨B,q1,q2,q3⟩:=hJ.b9 (h1 9 (show (9:Nat)∈([0,1,2,3,4,5,6,7,8,9]:List Nat) by decide));have hr4:=hJ.c4 (h1 4 (show (4:Nat)∈([0,1,2,3,4,5,6,7,8,9]:List Nat) by decide));have hr7:=hJ.c7 (h1 7 (show (7:Nat)∈([0,1,2,3,4,5,6,7,8,9]:List Nat) by decide));obtain ⟨a4,c4,e4⟩:=hr4.sl;obtain ⟨a7,c7,e7⟩:=hr7.1.sl;have h10:L 10=false:=h2;rw[h10,aB Bool.false_ne_true] at q3;have e8:=hJ.b8 (h1 8 (show (8:Nat)∈([0,1,2,3,4,5,6,7,8,9]:List Nat) by decide));rw[e4,e7] at e8;have f0:=aa q3 0;have f1:=aa q3 1;have f2:=aa q3 2;have f3:=aa q3 3;have f4:=aa q3 4;have g0:=aK q3 0;have g1:=aK q3 1;have g2:=aK q3 2;have g3:=aK q3 3;have g4:=aK q3 4;have HJ:=hid hJ;have HQ:=hid q3;have HR:=hid hR;clear hJ hr4 hr7 q3 hR;rw[q1,e8];unfold aR
    go_simp
    simp only[aJ];obtain ⟨s1,s2,s3⟩:=As HQ.out td (.slice a4 (kT l).length c4) (.slice a7 (vT l).length c7);have hr4:=HJ.out.c4 (h1 4 (show (4:Nat)∈([0,1,2,3,4,5,6,7,8,9]:List Nat) by decide));have hr7:=HJ.out.c7 (h1 7 (show (7:Nat)∈([0,1,2,3,4,5,6,7,8,9]:List Nat) by decide));refine HR.out _ _ ⟨(s2 _ (by omega)).trans HJ.out.ab,(s2 _ (by omega)).trans HJ.out.rb,s3 HJ.out.bel (by omega),fun _=>aX hr4 fun g hg=>s2 g (bY hr4 hg HQ.out),fun _=>⟨aX hr7.1 fun g hg=>s2 g (bY hr7.1 hg HQ.out),hr7.2⟩,HJ.out.b8,fun _=>⟨B,q1,by omega,?_⟩⟩;show eX B td (x 4) (x 7) _;rw[e4,e7];exact s1 rfl
  simp only[Act.put];refine ia (by kernel_rfl) (by kernel_rfl) ⟨HX1.out,HX2.out,HB.out.drew,(fun e=>by cases e),(fun e=>by cases e),(fun e=>by cases e),(fun e=>by cases e)⟩ ?_;intro x L W hJ hL;have l4:L 4=true:=hL 4 (show 4<11 by decide);have l7:L 7=true:=hL 7 (show 7<11 by decide);have l8:L 8=true:=hL 8 (show 8<11 by decide);have l9:L 9=true:=hL 9 (show 9<11 by decide);have l10:L 10=true:=hL 10 (show 10<11 by decide);rw[l4,l7,l8,l9,l10] at hJ;have HJ:=hid hJ;clear hJ hL l4 l7 l8 l9 l10
  go_wp2_with fail
  go_meet
  obtain ⟨B,e9,-,-⟩:=HJ.out.b9 rfl;exact ⟨B,x 4,x 7,x 8,e9,by have:=HJ.out;rwa [e9] at this⟩
 case rest=>
  obtain ⟨B,v4,v7,v8,rfl,hJ⟩:=hcut;obtain ⟨B',e9,hlt,hbx⟩:=hJ.b9 rfl;obtain rfl:B=B':=congrArg Addr.block (aI (Value.pointer.inj e9));have hrb:RB w.heap.size (w.heap.size+1) B td v4 v7 v4 v7 (kT l) (vT l) w wc:=⟨hJ.rb,hbx,hJ.c4 rfl,(hJ.c7 rfl).1,(hJ.c7 rfl).2,hJ.bel,by omega,by omega,by omega⟩
  have hfi:=yD wc (HE.out.far hJ.bel) (HH.out.far hJ.bel) hx;unfold bh at hfi;rw[HTD.out,HTX.out,HN.out] at hfi;have hab:=hJ.ab;have x0:=aa hab 0;have x1:=aa hab 1;have x2:=aa hab 2;have x3:=aa hab 3;have x4:=aa hab 4;have HAB:=hid hab;have HRB0:=hid hrb;clear hJ hab hrb e9 hbx hlt HB HX1 HX2 hw1 HCK HCV
  go_wp2_with fail
  refine hfi.mono ?_;rintro e w2 ⟨rfl,hb⟩;have hab:=(hb.block _ (ar HAB.out)).trans HAB.out;have x2:=aa hab 2;have HRB:=hid (HRB0.out.far hb);have HPL:=hid (Arx.st_place d l x v);have HLT:=hid (@Arx.isA_lt l x);have HIA:=hid (@Arx.isA_at l x);clear hb hfi hab x0 x1 x3 x4 HAB HRB0;have heq:(tv.toList==td.toList)=decide (v=d):=by rw[←HTV.out,←HTD.out,lW]
  cases hia:Arx.isA l x with
  | true=>
    rw[hia] at HPL HLT HIA;have hil:=HLT.out rfl;have HKX:=hid (HIA.out hil);obtain ⟨i,hi⟩:∃i,Arx.ixA l x=i:=⟨_,rfl⟩
    rw[hi] at HPL hil;rw[hi];have HKX2:Hid (l[i].1=x):=hid (by have:=HKX.out;simp only[hi] at this;exact (by simpa using this.symm));have hi0:(0:Int)≤(i:Int):=by omega
    have hin:i<n:=by have:=HN.out;omega
    have hwr:IntKind.i64.wrap ((i:Int)+1)=(i:Int)+1:=by rw[IntKind.wrap_i64];omega
    obtain ⟨g4,c4,rfl,-⟩:=bP HRB.out.kr (by rw[kT,List.length_map];omega);obtain ⟨g7,c7,rfl,-⟩:=bP HRB.out.vr (by rw[vT,List.length_map];omega);have hik:i<(kT l).length:=by rw[kT,List.length_map];exact hil
    have hiv:i<(vT l).length:=by rw[vT,List.length_map];exact hil
    clear HKX HLT HIA hia
    by_cases hvd:v=d
    · have HS:Hid (Arx.stA d l x v=l.eraseIdx i):=hid (by rw[HPL.out,aF rfl,aF hvd]);have hst:(tv.toList==td.toList)=true:=by rw[heq];exact aH hvd
      have HDK:=hid fun (W:World) (h:SRow w.heap.size W (.slice (some ⟨g4,0,none⟩) (kT l).length c4) (kT l))=>nM W h hik
      have HDV:=hid fun (W:World) (h:SRow w.heap.size W (.slice (some ⟨g7,0,none⟩) (vT l).length c7) (vT l))=>nM W h hiv
      clear heq HPL hvd
      go_upto_region 4 with fail
      refine cE [[],[0],[],[],[3],[0,1,2,3,4],[],[6],[],[],[9],[0,1,2,3,4,5,6,7,8,9,10],[0,1,2,3,4,5,6,7],[0,1,2,3,4,5,6,7,8,9,10,11,12],[0,1,2,3,4,5,6,7,8,9,10,11,12,13],[0,1,2,3,4,5,6,7,8,9,10,11,12,13,14]] (fun x L W=>JR w.heap.size (w.heap.size+1) B td (.slice (some ⟨g4,0,none⟩) (kT l).length c4) (.slice (some ⟨g7,0,none⟩) (vT l).length c7) (kT l) ((kT l).eraseIdx i) (vT l) ((vT l).eraseIdx i) td td w false (L 5) false (L 11) (L 13) (L 15) undef (x 5) undef (x 11) W) ?_;apply bf
      · intro x;go_simp;done
      · intro x L W R hJ h1 h2 h3 hR
        skip
        unfold aR
        go_simp
        simp only[aJ];exact hR _ hJ
      simp only[Act.put,ac,ag,ah];apply bf
      · intro x;go_simp;done
      · intro x L W R hJ h1 h2 h3 hR;have e13:L 13=false:=h3 13 (show (1:Nat)∈([0,1,2,3,4,5,6,7,8,9,10,11,12]:List Nat) by decide);have hbx:=hJ.core.bx;rw[e13] at hbx;have z3:=aa hbx 3;clear hbx;unfold aR
        go_simp
        simp only[aJ];exact hR _ hJ
      simp only[Act.put,ac,ag,ah]
      iterate 3
       apply bf
       · intro x;go_simp;done
       · intro x L W R hJ h1 h2 h3 hR
         skip
         unfold aR
         go_simp
         simp only[aJ];exact hR _ hJ
       simp only[Act.put,ac,ag,ah]
      apply bI
      · intro x;go_simp;done
      · intro x L W R hJ h1 h2 h3 hR
        skip
        unfold aR
        go_simp
        simp only[aJ];have e5:L 5=false:=h2;have e13:L 13=false:=h3 13 (show (5:Nat)∈([0,1,2,3,4,5,6,7,8,9,10,11,12]:List Nat) by decide);have hk:=hJ.core.kr;rw[e5] at hk;refine (HDK.out W hk).mono ?_;rintro e w' ⟨v,rfl,ho,hg,hn⟩;exact ⟨v,rfl,hR _ _ (hJ.k5 e5 e13 ho hg hn)⟩
      simp only[Act.put,ac,ag,ah,aw,aN,Nat.zero_add,Nat.reduceAdd];apply bf
      · intro x;go_simp;done
      · intro x L W R hJ h1 h2 h3 hR
        skip
        unfold aR
        go_simp
        simp only[aJ];exact hR _ hJ
      simp only[Act.put,ac,ag,ah];apply bf
      · intro x;go_simp;done
      · intro x L W R hJ h1 h2 h3 hR;have e15:L 15=false:=h3 15 (show (7:Nat)∈([0,1,2,3,4,5,6,7,8,9,10,11,12,13,14]:List Nat) by decide);have hbx:=hJ.core.bx;rw[e15] at hbx;have z4:=aa hbx 4;clear hbx;unfold aR
        go_simp
        simp only[aJ];exact hR _ hJ
      simp only[Act.put,ac,ag,ah]
      iterate 3
       apply bf
       · intro x;go_simp;done
       · intro x L W R hJ h1 h2 h3 hR
         skip
         unfold aR
         go_simp
         simp only[aJ];exact hR _ hJ
       simp only[Act.put,ac,ag,ah]
      apply bI
      · intro x;go_simp;done
      · intro x L W R hJ h1 h2 h3 hR
        skip
        unfold aR
        go_simp
        simp only[aJ];have e11:L 11=false:=h2;have e15:L 15=false:=h3 15 (show (11:Nat)∈([0,1,2,3,4,5,6,7,8,9,10,11,12,13,14]:List Nat) by decide);have e5:L 5=true:=h1 5 (show (5:Nat)∈([0,1,2,3,4,5,6,7,8,9,10]:List Nat) by decide);have hk:=hJ.core.vr;rw[e11] at hk;refine (HDV.out W hk).mono ?_;rintro e w' ⟨v,rfl,ho,hg,hn⟩;exact ⟨v,rfl,hR _ _ (hJ.v11 e5 e11 e15 ho hg hn)⟩
      simp only[Act.put,ac,ag,ah,aw,aN,Nat.zero_add,Nat.reduceAdd];apply bf
      · intro x;go_simp;done
      · intro x L W R hJ h1 h2 h3 hR
        skip
        unfold aR
        go_simp
        simp only[aJ];exact hR _ hJ
      simp only[Act.put,ac,ag,ah];apply bI
      · intro x;go_simp;done
      · intro x L W R hJ h1 h2 h3 hR;have e5:L 5=true:=h1 5 (show (5:Nat)∈([0,1,2,3,4,5,6,7,8,9,10,11,12]:List Nat) by decide);have e11:L 11=true:=h1 11 (show (11:Nat)∈([0,1,2,3,4,5,6,7,8,9,10,11,12]:List Nat) by decide);have hbx:=hJ.core.bx;have hk:=hJ.core.kr;rw[e5] at hk;obtain ⟨a5,n5,c5,e5x⟩:=hk.sl3;have hs:=hJ.s13 e5 e11;change x 5=_ at e5x;rw[e5x] at hs;rw[e5x];have f3:=aa hbx 3;have q3:=aK hbx 3;have HS:=hid hs;clear hbx hk hs;unfold aR
        go_simp
        simp only[aJ];refine hR _ _ ?_;show JR _ _ _ _ _ _ _ _ _ _ _ _ _ false (L 5) false (L 11) true (L 15) undef (x 5) undef (x 11) _;rw[e5x];exact HS.out
      simp only[Act.put];apply bf
      · intro x;go_simp;done
      · intro x L W R hJ h1 h2 h3 hR
        skip
        unfold aR
        go_simp
        simp only[aJ];exact hR _ hJ
      simp only[Act.put,ac,ag,ah];apply bI
      · intro x;go_simp;done
      · intro x L W R hJ h1 h2 h3 hR;have e5:L 5=true:=h1 5 (show (5:Nat)∈([0,1,2,3,4,5,6,7,8,9,10,11,12,13,14]:List Nat) by decide);have e11:L 11=true:=h1 11 (show (11:Nat)∈([0,1,2,3,4,5,6,7,8,9,10,11,12,13,14]:List Nat) by decide);have hbx:=hJ.core.bx;have hk:=hJ.core.vr;rw[e11] at hk;obtain ⟨a5,n5,c5,e5x⟩:=hk.sl3;have hs:=hJ.s15 e5 e11;change x 11=_ at e5x;rw[e5x] at hs;rw[e5x];have f4:=aa hbx 4;have q4:=aK hbx 4;have HS:=hid hs;clear hbx hk hs;unfold aR
        go_simp
        simp only[aJ];refine hR _ _ ?_;show JR _ _ _ _ _ _ _ _ _ _ _ _ _ false (L 5) false (L 11) (L 13) true undef (x 5) undef (x 11) _;rw[e5x];exact HS.out
      simp only[Act.put];refine ia (by kernel_rfl) (by kernel_rfl) ⟨HRB.out.drew,(fun e=>by cases e),(fun e=>by cases e)⟩ ?_;intro y L W hJ hL;have l5:L 5=true:=hL 5 (show 5<16 by decide);have l11:L 11=true:=hL 11 (show 11<16 by decide);have l13:L 13=true:=hL 13 (show 13<16 by decide);have l15:L 15=true:=hL 15 (show 15<16 by decide);have hJ:=hJ.core;rw[l5,l11,l13,l15] at hJ;change RB _ _ _ _ (y 5) (y 11) (y 5) (y 11) _ _ _ _ at hJ;generalize y 5=k5 at *;generalize y 11=k11 at *;obtain ⟨a5,n5,d5,rfl⟩:=hJ.kr.sl3;obtain ⟨a11,n11,d11,rfl⟩:=hJ.vr.sl3;have HRB:=hid hJ;clear hJ hL l5 l11 l13 l15;have HFIN:=hid HRB.out.fin;have z0:=aa HRB.out.bx 0;have z1:=aa HRB.out.bx 1;have z2:=aa HRB.out.bx 2;have z3:=aa HRB.out.bx 3;have z4:=aa HRB.out.bx 4;have f0:=aa HRB.out.rb 0;have f1:=aa HRB.out.rb 1;have f2:=aa HRB.out.rb 2;have f3:=aa HRB.out.rb 3;have f4:=aa HRB.out.rb 4;have g0:=aK HRB.out.rb 0;have g1:=aK HRB.out.rb 1;have g2:=aK HRB.out.rb 2;have g3:=aK HRB.out.rb 3;have g4:=aK HRB.out.rb 4;clear HRB
      go_wp2
      obtain ⟨hf1,hf2,hf3,hf4⟩:=HFIN.out;refine d8 rfl rfl rfl ⟨_,_,_,rfl⟩ ⟨_,_,_,rfl⟩ hf1 ⟨_,_,rfl,⟨?_,?_,HH.out.vd.st x v,HH.out.sd,Arx.st_all HH.out.sl hx hv,by have:=Arx.st_len d l x v;have:=HL.out;omega⟩,hf4⟩
      · rw[show kT (Arx.stA d l x v)=(kT l).eraseIdx i by rw[HS.out];exact nO _ _ _];exact hf2
      · rw[show vT (Arx.stA d l x v)=(vT l).eraseIdx i by rw[HS.out];exact nO _ _ _];exact hf3
    · have HS:Hid (Arx.stA d l x v=l.set i (x,v)):=hid (by rw[HPL.out,aF rfl,aB hvd]);have hst:(tv.toList==td.toList)=false:=by rw[heq];exact aD hvd
      have hsr:=HRB.out.vr.set i tv;have hrb:=HRB.out.vop (u':=(.slice (some ⟨g7,0,none⟩) (vT l).length c7)) (W':=w2.setCell ⟨g7,i,none⟩ (.string tv)) (by have e:((vT l).set i tv).length=(vT l).length:=aQ;unfold SRow at hsr ⊢;exact hsr) (dQ (cY w2 (some g7)) i _) (fun _ h=>.inl h);have HRB1:=hid hrb;have z3:=aa HRB.out.bx 3;have z4:=aa HRB.out.bx 4;obtain ⟨g0,c0,e0,q0⟩:=HRB.out.vr.cell (ay hiv);injection e0 with e0 _ e0c;injection (aI e0) with e0 _ _;subst e0 e0c;have q1:w2.frozen? ⟨g7,i,none⟩=false:=World.ownsRow.frozenAt HRB.out.vr i;have hiv':(i:Int)<((vT l).length:Int):=by omega
      clear heq HPL hvd hsr hrb HRB;have HRB:=HRB1
      go_upto_region 9 with fail
      generalize hw3:w2.setCell ⟨g7,i,none⟩ (.string tv)=w3 at *;clear hw3 z3 z4 q0 q1 x2;have HFIN:=hid HRB.out.fin;have z0:=aa HRB.out.bx 0;have z1:=aa HRB.out.bx 1;have z2:=aa HRB.out.bx 2;have z3:=aa HRB.out.bx 3;have z4:=aa HRB.out.bx 4;have f0:=aa HRB.out.rb 0;have f1:=aa HRB.out.rb 1;have f2:=aa HRB.out.rb 2;have f3:=aa HRB.out.rb 3;have f4:=aa HRB.out.rb 4;have g0:=aK HRB.out.rb 0;have g1:=aK HRB.out.rb 1;have g2:=aK HRB.out.rb 2;have g3:=aK HRB.out.rb 3;have g4:=aK HRB.out.rb 4;clear HRB
      go_wp2
      obtain ⟨hf1,hf2,hf3,hf4⟩:=HFIN.out;refine d8 rfl rfl rfl ⟨_,_,_,rfl⟩ ⟨_,_,_,rfl⟩ hf1 ⟨_,_,rfl,⟨?_,?_,HH.out.vd.st x v,HH.out.sd,Arx.st_all HH.out.sl hx hv,by have:=Arx.st_len d l x v;have:=HL.out;omega⟩,hf4⟩
      · rw[show kT (Arx.stA d l x v)=kT l by rw[HS.out];exact Au hil HKX2.out];exact hf2
      · rw[show vT (Arx.stA d l x v)=(vT l).set i tv by rw[HS.out,←HTV.out];exact Av _ _ _ _];exact hf3
  | false=>
    rw[hia] at HPL;obtain ⟨i,hi⟩:∃i,Arx.ixA l x=i:=⟨_,rfl⟩
    have hil:i≤l.length:=by rw[←hi];exact Arx.ixA_le l x
    rw[hi] at HPL;rw[hi];have hi0:(0:Int)≤(i:Int):=by omega
    clear hia HLT HIA hi;obtain ⟨a4,c4,rfl⟩:=HRB.out.kr.sl;obtain ⟨a7,c7,rfl⟩:=HRB.out.vr.sl;have hik:i≤(kT l).length:=by rw[kT,List.length_map];exact hil
    have hiv:i≤(vT l).length:=by rw[vT,List.length_map];exact hil
    by_cases hvd:v=d
    · have HS:Hid (Arx.stA d l x v=l):=hid (by rw[HPL.out,aB Bool.false_ne_true,aF hvd]);have hst:(tv.toList==td.toList)=true:=by rw[heq];exact aH hvd
      clear heq HPL hvd;have HFIN:=hid HRB.out.fin;have z0:=aa HRB.out.bx 0;have z1:=aa HRB.out.bx 1;have z2:=aa HRB.out.bx 2;have z3:=aa HRB.out.bx 3;have z4:=aa HRB.out.bx 4;have f0:=aa HRB.out.rb 0;have f1:=aa HRB.out.rb 1;have f2:=aa HRB.out.rb 2;have f3:=aa HRB.out.rb 3;have f4:=aa HRB.out.rb 4;have g0:=aK HRB.out.rb 0;have g1:=aK HRB.out.rb 1;have g2:=aK HRB.out.rb 2;have g3:=aK HRB.out.rb 3;have g4:=aK HRB.out.rb 4;clear HRB
      go_wp2
      obtain ⟨hf1,hf2,hf3,hf4⟩:=HFIN.out;refine d8 rfl rfl rfl ⟨_,_,_,rfl⟩ ⟨_,_,_,rfl⟩ hf1 ⟨_,_,rfl,⟨?_,?_,HH.out.vd.st x v,HH.out.sd,Arx.st_all HH.out.sl hx hv,by have:=Arx.st_len d l x v;have:=HL.out;omega⟩,hf4⟩
      · rw[HS.out];exact hf2
      · rw[HS.out];exact hf3
    · have HS:Hid (Arx.stA d l x v=l.take i++(x,v)::l.drop i):=hid (by rw[HPL.out,aB Bool.false_ne_true,aB hvd]);have hst:(tv.toList==td.toList)=false:=by rw[heq];exact aD hvd
      have HDK:=hid fun (W:World) (b vc:Nat) (h:SRow w.heap.size W (.slice a4 (kT l).length c4) (kT l)) (hs:w.heap.size≤W.heap.size) (hq:W.heap[b]? =some (.cells #[.string tx] 9 (0,0))) (hne:Value.ownBlock (.slice a4 (kT l).length c4)≠some b)=>nN (vc:=vc) W h hik (by rw[kT,List.length_map];have:=HL.out;omega) hs hq hne
      have HDV:=hid fun (W:World) (b vc:Nat) (h:SRow w.heap.size W (.slice a7 (vT l).length c7) (vT l)) (hs:w.heap.size≤W.heap.size) (hq:W.heap[b]? =some (.cells #[.string tv] 9 (0,0))) (hne:Value.ownBlock (.slice a7 (vT l).length c7)≠some b)=>nN (vc:=vc) W h hiv (by rw[vT,List.length_map];have:=HL.out;omega) hs hq hne
      clear heq HPL hvd
      go_upto_region 8 with fail
      refine cE [[],[0],[],[],[3],[0,1,2,3,4],[],[6],[],[],[9],[0,1,2,3,4,5,6,7,8,9,10],[0,1,2,3,4,5,6,7],[0,1,2,3,4,5,6,7,8,9,10,11,12],[0,1,2,3,4,5,6,7,8,9,10,11,12,13],[0,1,2,3,4,5,6,7,8,9,10,11,12,13,14]] (fun y L W=>JR w.heap.size (w.heap.size+1) B td (.slice a4 (kT l).length c4) (.slice a7 (vT l).length c7) (kT l) ((kT l).take i++tx::(kT l).drop i) (vT l) ((vT l).take i++tv::(vT l).drop i) tx tv w (L 4) (L 5) (L 10) (L 11) (L 13) (L 15) (y 4) (y 5) (y 10) (y 11) W) ?_;apply bf
      · intro x;go_simp;done
      · intro y L W R hJ h1 h2 h3 hR
        skip
        unfold aR
        go_simp
        simp only[aJ];exact hR _ hJ
      simp only[Act.put,ac,ag,ah];apply bf
      · intro x;go_simp;done
      · intro y L W R hJ h1 h2 h3 hR;have e13:L 13=false:=h3 13 (show (1:Nat)∈([0,1,2,3,4,5,6,7,8,9,10,11,12]:List Nat) by decide);have hbx:=hJ.core.bx;rw[e13] at hbx;have z3:=aa hbx 3;clear hbx;unfold aR
        go_simp
        simp only[aJ];exact hR _ hJ
      simp only[Act.put,ac,ag,ah]
      iterate 2
       apply bf
       · intro x;go_simp;done
       · intro y L W R hJ h1 h2 h3 hR
         skip
         unfold aR
         go_simp
         simp only[aJ];exact hR _ hJ
       simp only[Act.put,ac,ag,ah]
      apply bI
      · intro x;go_simp;done
      · intro y L W R hJ h1 h2 h3 hR;have hb:=aO W (.cells #[.string tx] 9);have hj:=hJ.far hb;have HJ:=hid hJ;have HJ2:=hid hj;clear hJ hj;unfold aR
        go_simp
        simp only[aJ];have e5:L 5=false:=h3 5 (show (4:Nat)∈([0,1,2,3,4]:List Nat) by decide);have hk:=HJ.out.core.kr;rw[e5] at hk;exact hR _ _ ⟨HJ2.out.core,fun _ _=>⟨W.heap.size,rfl,aq W _,fun e=>by have:=(bU hk e).2;omega⟩,HJ2.out.b10⟩
      simp only[Act.put,ac,ag,ah,aw,aN,Nat.zero_add,Nat.reduceAdd];apply bI
      · intro x;go_simp;done
      · intro y L W R hJ h1 h2 h3 hR;have e5:L 5=false:=h2;have e4:L 4=true:=h1 4 (show (4:Nat)∈([0,1,2,3,4]:List Nat) by decide);obtain ⟨b,q1,q2,q3⟩:=hJ.b4 e4 e5;rw[q1];unfold aR
        go_simp
        simp only[aJ];have e13:L 13=false:=h3 13 (show (5:Nat)∈([0,1,2,3,4,5,6,7,8,9,10,11,12]:List Nat) by decide);have hk:=hJ.core.kr;rw[e5] at hk;refine (HDK.out W b _ hk hJ.core.hs q2 q3).mono ?_;rintro e w' ⟨v,rfl,ho,hg,hn⟩;refine ⟨v,rfl,hR _ _ ?_⟩;show JR _ _ _ _ _ _ _ _ _ _ _ _ _ (L 4) true (L 10) (L 11) (L 13) (L 15) (y 4) v (y 10) (y 11) _;exact hJ.k5 e5 e13 ho hg hn
      simp only[Act.put,ac,ag,ah,aw,aN,Nat.zero_add,Nat.reduceAdd];apply bf
      · intro x;go_simp;done
      · intro y L W R hJ h1 h2 h3 hR
        skip
        unfold aR
        go_simp
        simp only[aJ];exact hR _ hJ
      simp only[Act.put,ac,ag,ah];apply bf
      · intro x;go_simp;done
      · intro y L W R hJ h1 h2 h3 hR;have e15:L 15=false:=h3 15 (show (7:Nat)∈([0,1,2,3,4,5,6,7,8,9,10,11,12,13,14]:List Nat) by decide);have hbx:=hJ.core.bx;rw[e15] at hbx;have z4:=aa hbx 4;clear hbx;unfold aR
        go_simp
        simp only[aJ];exact hR _ hJ
      simp only[Act.put,ac,ag,ah]
      iterate 2
       apply bf
       · intro x;go_simp;done
       · intro y L W R hJ h1 h2 h3 hR
         skip
         unfold aR
         go_simp
         simp only[aJ];exact hR _ hJ
       simp only[Act.put,ac,ag,ah]
      apply bI
      · intro x;go_simp;done
      · intro y L W R hJ h1 h2 h3 hR;have hb:=aO W (.cells #[.string tv] 9);have hj:=hJ.far hb;have HJ:=hid hJ;have HJ2:=hid hj;clear hJ hj;unfold aR
        go_simp
        simp only[aJ];have e11:L 11=false:=h3 11 (show (10:Nat)∈([0,1,2,3,4,5,6,7,8,9,10]:List Nat) by decide);have hu:=HJ.out.core.vr;rw[e11] at hu;exact hR _ _ ⟨HJ2.out.core,HJ2.out.b4,fun _ _=>⟨W.heap.size,rfl,aq W _,(fun e=>by have:=(bU hu e).2;omega),fun e=>by have:=(bU HJ.out.core.kr e).2;omega⟩⟩
      simp only[Act.put,ac,ag,ah,aw,aN,Nat.zero_add,Nat.reduceAdd];apply bI
      · intro x;go_simp;done
      · intro y L W R hJ h1 h2 h3 hR;have e11:L 11=false:=h2;have e10:L 10=true:=h1 10 (show (10:Nat)∈([0,1,2,3,4,5,6,7,8,9,10]:List Nat) by decide);obtain ⟨b,q1,q2,q3,-⟩:=hJ.b10 e10 e11;rw[q1];unfold aR
        go_simp
        simp only[aJ];have e15:L 15=false:=h3 15 (show (11:Nat)∈([0,1,2,3,4,5,6,7,8,9,10,11,12,13,14]:List Nat) by decide);have e5:L 5=true:=h1 5 (show (5:Nat)∈([0,1,2,3,4,5,6,7,8,9,10]:List Nat) by decide);have hk:=hJ.core.vr;rw[e11] at hk;refine (HDV.out W b _ hk hJ.core.hs q2 q3).mono ?_;rintro e w' ⟨v,rfl,ho,hg,hn⟩;refine ⟨v,rfl,hR _ _ ?_⟩;show JR _ _ _ _ _ _ _ _ _ _ _ _ _ (L 4) (L 5) (L 10) true (L 13) (L 15) (y 4) (y 5) (y 10) v _;exact hJ.v11 e5 e11 e15 ho hg hn
      simp only[Act.put,ac,ag,ah,aw,aN,Nat.zero_add,Nat.reduceAdd];apply bf
      · intro x;go_simp;done
      · intro y L W R hJ h1 h2 h3 hR
        skip
        unfold aR
        go_simp
        simp only[aJ];exact hR _ hJ
      simp only[Act.put,ac,ag,ah];apply bI
      · intro x;go_simp;done
      · intro y L W R hJ h1 h2 h3 hR;have e5:L 5=true:=h1 5 (show (5:Nat)∈([0,1,2,3,4,5,6,7,8,9,10,11,12]:List Nat) by decide);have e11:L 11=true:=h1 11 (show (11:Nat)∈([0,1,2,3,4,5,6,7,8,9,10,11,12]:List Nat) by decide);have hbx:=hJ.core.bx;have hk:=hJ.core.kr;rw[e5] at hk;obtain ⟨a5,n5,c5,e5x⟩:=hk.sl3;have hs:=hJ.s13 e5 e11;change y 5=_ at e5x;rw[e5x] at hs;rw[e5x];have f3:=aa hbx 3;have q3:=aK hbx 3;have HS:=hid hs;clear hbx hk hs;unfold aR
        go_simp
        simp only[aJ];refine hR _ _ ?_;show JR _ _ _ _ _ _ _ _ _ _ _ _ _ (L 4) (L 5) (L 10) (L 11) true (L 15) (y 4) (y 5) (y 10) (y 11) _;rw[e5x];exact HS.out
      simp only[Act.put];apply bf
      · intro x;go_simp;done
      · intro y L W R hJ h1 h2 h3 hR
        skip
        unfold aR
        go_simp
        simp only[aJ];exact hR _ hJ
      simp only[Act.put,ac,ag,ah];apply bI
      · intro x;go_simp;done
      · intro y L W R hJ h1 h2 h3 hR;have e5:L 5=true:=h1 5 (show (5:Nat)∈([0,1,2,3,4,5,6,7,8,9,10,11,12,13,14]:List Nat) by decide);have e11:L 11=true:=h1 11 (show (11:Nat)∈([0,1,2,3,4,5,6,7,8,9,10,11,12,13,14]:List Nat) by decide);have hbx:=hJ.core.bx;have hk:=hJ.core.vr;rw[e11] at hk;obtain ⟨a5,n5,c5,e5x⟩:=hk.sl3;have hs:=hJ.s15 e5 e11;change y 11=_ at e5x;rw[e5x] at hs;rw[e5x];have f4:=aa hbx 4;have q4:=aK hbx 4;have HS:=hid hs;clear hbx hk hs;unfold aR
        go_simp
        simp only[aJ];refine hR _ _ ?_;show JR _ _ _ _ _ _ _ _ _ _ _ _ _ (L 4) (L 5) (L 10) (L 11) (L 13) true (y 4) (y 5) (y 10) (y 11) _;rw[e5x];exact HS.out
      simp only[Act.put];refine ia (by kernel_rfl) (by kernel_rfl) ⟨HRB.out.drew,(fun e=>by cases e),(fun e=>by cases e)⟩ ?_;intro y L W hJ hL;have l5:L 5=true:=hL 5 (show 5<16 by decide);have l11:L 11=true:=hL 11 (show 11<16 by decide);have l13:L 13=true:=hL 13 (show 13<16 by decide);have l15:L 15=true:=hL 15 (show 15<16 by decide);have hJ:=hJ.core;rw[l5,l11,l13,l15] at hJ;change RB _ _ _ _ (y 5) (y 11) (y 5) (y 11) _ _ _ _ at hJ;generalize y 5=k5 at *;generalize y 11=k11 at *;obtain ⟨a5,n5,d5,rfl⟩:=hJ.kr.sl3;obtain ⟨a11,n11,d11,rfl⟩:=hJ.vr.sl3;have HRB:=hid hJ;clear hJ hL l5 l11 l13 l15;have HFIN:=hid HRB.out.fin;have z0:=aa HRB.out.bx 0;have z1:=aa HRB.out.bx 1;have z2:=aa HRB.out.bx 2;have z3:=aa HRB.out.bx 3;have z4:=aa HRB.out.bx 4;have f0:=aa HRB.out.rb 0;have f1:=aa HRB.out.rb 1;have f2:=aa HRB.out.rb 2;have f3:=aa HRB.out.rb 3;have f4:=aa HRB.out.rb 4;have g0:=aK HRB.out.rb 0;have g1:=aK HRB.out.rb 1;have g2:=aK HRB.out.rb 2;have g3:=aK HRB.out.rb 3;have g4:=aK HRB.out.rb 4;clear HRB
      go_wp2
      obtain ⟨hf1,hf2,hf3,hf4⟩:=HFIN.out;refine d8 rfl rfl rfl ⟨_,_,_,rfl⟩ ⟨_,_,_,rfl⟩ hf1 ⟨_,_,rfl,⟨?_,?_,HH.out.vd.st x v,HH.out.sd,Arx.st_all HH.out.sl hx hv,by have:=Arx.st_len d l x v;have:=HL.out;omega⟩,hf4⟩
      · rw[show kT (Arx.stA d l x v)=(kT l).take i++tx::(kT l).drop i by rw[HS.out,←HTX.out];exact uf _ _ _ _];exact hf2
      · rw[show vT (Arx.stA d l x v)=(vT l).take i++tv::(vT l).drop i by rw[HS.out,←HTV.out];exact uf _ _ _ _];exact hf3
end Go.Proofs.YtpkfnnkbfphfbaaGreatDoor.Se

/- tree.Node. -/
import Derived.Test.YtapdbeaoakcjeaaGreatDoorEUW
set_option maxRecDepth 100000
set_option maxHeartbeats 40000000
open Go.Lib (hid)
namespace Go.Proofs.YtapdbeaoakcjeaaGreatDoor.Se
open Go.RowKit Nmx
theorem fR:(Tryz.prog.info? 34).map (fun i=>(i.zero,i.size,i.bytes))=some (some (.agg #[.int .i64 0,.int .i64 0,.string ⟨#[]⟩,.string ⟨#[]⟩,.int .i64 0]),5,56):=by kernel_rfl
theorem rU {P:Program} {o:Oper} {a:Act} {w:World} {R:Value→World→Prop} (l c:Operand) (t:TypeId) (ho:o.op=Op.makeSlice t l c)
    (base:Nat) (e:TypeId) (i:TypeInfo) (z:Value) (size:Nat) (h1:P.underlying t=some (.slice e)) (h2:P.info? e=some i) (h3:i.zero=some z) (h4:i.size=size)
    (kl kc:IntKind) (n:Nat) (hl:a.eval l=.int kl 0) (hc:a.eval c=.int kc (n:Int)) (b2:i.bytes*n≤281474976710656) (b3:n≤maxLen) (b4:base≤w.heap.size)
    (h:∀w',w'.ownsRow base e size (.slice (some ⟨w.heap.size,0,none⟩) 0 n) 0 []→w.grownBy w' none→R (.slice (some ⟨w.heap.size,0,none⟩) 0 n) w'):aN P o a w R:=by
 obtain ⟨w',hr,r1,r2⟩:=run_make_own (P:=P) w base t e i z size h1 h2 h3 h4 kl kc n b2 b3 b4;unfold aN execOp;simp only[ho,hl,hc,Sem.run_bind,hr,Result.andThen_ok];exact h w' r1 r2
theorem oT (g q:Nat):(⟨g,0,none⟩:Addr).add q=⟨g,q,none⟩:=by
 unfold Addr.add
 split
 · rename_i h;rw[h]
 · rw[Nat.zero_add]
theorem nN:∀(ts:List Nd) (i j:Nat),j<5→(bm ts)[i*5+j]? =ts[i]?.bind fun x=>x.cells[j]? :=by
 intro ts
 induction ts with
 | nil=>intro i j _;simp[bm]
 | cons x ts ih=>
   intro i j hj;have e:bm (x::ts)=x.cells++bm ts:=by simp[bm]
   have hl:x.cells.length=5:=rfl;rw[e];cases i with
   | zero=>rw[List.getElem?_append_left (by omega)];simp
   | succ i=>
     rw[List.getElem?_append_right (by omega),hl,show (i+1)*5+j-5=i*5+j by omega,ih i j hj]
     simp
theorem du:∀ts:List Nd,(bm ts).length=ts.length*5:=by
 intro ts
 induction ts with
 | nil=>rfl
 | cons x ts ih=>
   have e:bm (x::ts)=x.cells++bm ts:=by simp[bm]
   have hl:x.cells.length=5:=rfl;rw[e,aA,ih,hl,au];omega
theorem nO (a b:List Nd):bm (a++b)=bm a++bm b:=by simp[bm]
theorem e7 {w:World} {g:Nat} {ts:List Nd} (h:NodesAt w g ts) (j:Nat) (u:Value) (hj:(bm ts)[j]? =some u):w.cell? ⟨g,j,none⟩=some u:=by
 have e:j=j / 5*5+j % 5:=by omega
 rw[e,nN _ _ _ (by omega)] at hj;obtain ⟨x,hx,hu⟩:=Option.bind_eq_some_iff.1 hj;have:=h _ x hx (j % 5) (by omega);rw[←e] at this;rw[this];exact hu
theorem dC {w:World} {g:Nat} {ts:List Nd} (h:∀j,j<ts.length*5→w.cell? ⟨g,j,none⟩=(bm ts)[j]?):NodesAt w g ts:=by
 intro i x hx j hj;have hl:i<ts.length:=(List.getElem?_eq_some_iff.1 hx).1;rw[h (i*5+j) (by omega),nN _ _ _ hj,hx];rfl
theorem i5 (ts:List Nd):∀u∈bm ts,u.oneCell'=true:=by
 intro u hu;obtain ⟨x,-,hx⟩:=List.mem_flatMap.1 hu;simp only[Nd.cells,List.mem_cons,List.not_mem_nil,or_false] at hx;rcases hx with rfl | rfl | rfl | rfl | rfl <;> rfl
structure NDB (S:Nat) (w:World) (x:Nd) (n:Int) (W:World):Prop where
 bx:W.heap[S]? =some (.cells #[.int .i64 x.op,.int .i64 x.sort,.string x.name,.string x.num,.int .i64 n] 34 (0,0))
 bel:Below S w W
theorem NDB.far {S:Nat} {w:World} {x:Nd} {n:Int} {W W':World} (h:NDB S w x n W) (hb:Below W.heap.size W W'):NDB S w x n W':=
 ⟨(hb.block _ (ay h.bx)).trans h.bx,h.bel.trans (hb.mono (aI (ay h.bx)))⟩
theorem NDB.grow {S:Nat} {w:World} {x:Nd} {n:Int} {W W':World} {b:Option Nat} (h:NDB S w x n W) (hg:W.grownBy W' b) (hb:∀k,b=some k→S<k):NDB S w x n W':=
 ⟨(hg.block _ (ay h.bx) (fun e=>by have:=hb S e.symm;omega)).trans h.bx,h.bel.grown hg (aI (ay h.bx)) (fun k e=>by have:=hb k e;omega)⟩
def Kds (w:World) (ak:Option Addr) (gk:Nat) (L:List (List Nd)):Prop:=
 (L.length≠0→ak=some ⟨gk,0,none⟩)∧gk<w.heap.size∧∀j t,L[j]? =some t→∃g c,w.cell? ⟨gk,j,none⟩=some (.slice (some ⟨g,0,none⟩) t.length c)∧NodesAt w g t∧g<w.heap.size
theorem Kds.far {w w':World} {ak:Option Addr} {gk:Nat} {L:List (List Nd)} (h:Kds w ak gk L) (hb:Below w.heap.size w w'):Kds w' ak gk L:=
 ⟨h.1,ap h.2.1 hb.size,fun j t ht=>let ⟨g,c,h1,h2,h3⟩:=h.2.2 j t ht;⟨g,c,(hb.cell (p:=⟨gk,j,none⟩) h.2.1).trans h1,h2.below hb h3,ap h3 hb.size⟩⟩
def Sft (w:World) (g n:Nat):Prop:=∃cs ty,w.heap[g]? =some (.cells cs ty (0,0))∧n*5≤cs.size
theorem Sft.lt {w:World} {g n:Nat} (h:Sft w g n):g<w.heap.size:=let ⟨_,_,h1,_⟩:=h;ay h1
theorem Sft.keep {w w':World} {g n:Nat} (h:Sft w g n) (hb:w'.heap[g]? =w.heap[g]?):Sft w' g n:=let ⟨cs,ty,h1,h2⟩:=h;⟨cs,ty,hb.trans h1,h2⟩
theorem Sft.far {w w':World} {g n:Nat} (h:Sft w g n) (hb:Below w.heap.size w w'):Sft w' g n:=h.keep (hb.block _ h.lt)
theorem Sft.row {w:World} {b g n c:Nat} {e:TypeId} {xs:List Value} (h:w.ownsRow b e 5 (.slice (some ⟨g,0,none⟩) n c) n xs):Sft w g n:=by
 obtain ⟨_,h1 | h1⟩:=h
 · cases h1.1
 · obtain ⟨g',cap,cur,hv,_,h2,h3,_,h4,_⟩:=h1;injection hv with e1 _ _;have e2:g=g':=congrArg Addr.block (aG e1);subst e2;exact ⟨cur,e,h2,by rw[h4];omega⟩
def fS (w:World) (x:Nd) (L:List (List Nd)) (e:Ending) (w':World):Prop:=
 ∃g c,e=.returned (.slice (some ⟨g,0,none⟩) (1+L.flatten.length) c)∧NodesAt w' g ({ x with kids:=L.length }::L.flatten)∧Sft w' g (1+L.flatten.length)∧w.heap.size≤g∧Below w.heap.size w w'
theorem d9 {L:List (List Nd)} {j:Nat} (h:j<L.length):(L.take (j+1)).flatten=(L.take j).flatten++L[j]:=by
 rw[List.take_add_one,aq h,List.flatten_append];simp
section
theorem gD (x:Nd) (ak:Option Addr) (gk ck:Nat) (L:List (List Nd)) (w:World) (hk:Kds w ak gk L) (hs:L.flatten.length≤1000000) (hmx:L.length≤1000000):
    Calls Tryz.prog 43 #[x.val,.slice ak L.length ck] w (fS w x L):=by
 obtain ⟨i0,hi,hz0,hz1,hz2⟩:=info_parts fR;obtain ⟨op,sort,name,num,kids⟩:=x;have hb:=aD w (.cells #[.int .i64 op,.int .i64 sort,.string name,.string num,.int .i64 kids] 34);have hw0:=heap_alloc_new w (.cells #[.int .i64 op,.int .i64 sort,.string name,.string num,.int .i64 kids] 34);have HK:=hid hk;have HND:Hid (NDB w.heap.size w ⟨op,sort,name,num,kids⟩ kids (w.alloc (.cells #[.int .i64 op,.int .i64 sort,.string name,.string num,.int .i64 kids] 34))):=hid ⟨hw0,hb⟩
 have hmono:∀j,(L.take j).flatten.length≤L.flatten.length:=fun j=>by
  have:=congrArg List.length (congrArg List.flatten (List.take_append_drop j L));rw[List.flatten_append,aA] at this;omega
 have HMO:=hid hmono;obtain ⟨m,hm⟩:∃m,L.length=m:=⟨_,rfl⟩
 have HL:=hid hm;have HP:Hid (∀e w',fS w ⟨op,sort,name,num,kids⟩ L e w'→fS w ⟨op,sort,name,num,kids⟩ L e w'):=hid fun _ _ h=>h
 unfold Nd.val;rw[hm];rw[hm] at hmx;clear hk hb hw0 hm hmono
 go_enter Tryz.func43,Tryz.ntmps43
 go_wp2
 generalize w.alloc (.cells #[.int .i64 op,.int .i64 sort,.string name,.string num,.int .i64 kids] 34)=w1 at *
 go_loop [5,13] (fun s i=>∃j:Nat,j≤m∧s=.int .i64 (1+(L.take j).flatten.length:Nat)∧i=.int .i64 j) (fun _ i=>m-(intOf i).toNat)
 case atStart=>exact ⟨0,aE _,by simp,rfl⟩
 case round=>
  obtain ⟨j,hj,rfl,rfl⟩:=hrel;have hj0:(0:Int)≤(j:Int):=by omega
  by_cases hlt:j<m
  · have hlt':(j:Int)<(m:Int):=by omega
    have hl:j<L.length:=by rw[HL.out];exact hlt
    obtain rfl:=HK.out.1 (by omega);obtain ⟨g,c,cc,-,-⟩:=(HK.out.far HND.out.bel).2.2 j L[j] (aq hl);have hnx:(1+(L.take (j+1)).flatten.length:Nat)=(1+(L.take j).flatten.length)+L[j].length:=by rw[d9 hl,aA];omega
    have hle:=HMO.out (j+1);have HNX:=hid hnx;have h1:1+(L.take j).flatten.length+L[j].length≤1000001:=by omega
    clear hle hnx;generalize 1+(L.take j).flatten.length=s0 at *;generalize L[j].length=ln at *
    go_wp2
    go_round
    case rel=>exact ⟨j+1,by omega,by rw[HNX.out];go_num,by go_num⟩
    case measure=>simp[intOf];omega
  · obtain rfl:j=m:=by omega
    have hall:(L.take j).flatten=L.flatten:=by rw[aJ (by rw[HL.out];omega)]
    rw[hall];obtain ⟨T,hT⟩:∃T,1+L.flatten.length=T:=⟨_,rfl⟩
    have hTs:T≤1000001:=by omega
    have hT1:1≤T:=by omega
    rw[hT];have HT:=hid hT;have hS:=ay HND.out.bx;have HN2:Hid (NDB w.heap.size w ⟨op,sort,name,num,kids⟩ j (w1.setCell ⟨w.heap.size,4,none⟩ (.int .i64 j))):=hid ⟨heap_set HND.out.bx 4 (.int .i64 j),HND.out.bel.setCell (show w.heap.size≤w.heap.size from ag _) _⟩;have z4:=aM HND.out.bx 4;have d4:=ac HND.out.bx 4;clear hall hT HND;generalize hSS:w.heap.size=S at *;have HS:=hid hSS;clear hSS
    go_upto_region 8 with fail
    generalize w1.setCell ⟨S,4,none⟩ (.int .i64 j)=w2 at *;clear z4 d4 hS;refine aV [[],[0],[],[2],[0,1,2,3],[0,1,2,3,4]] (fun W=>NDB S w ⟨op,sort,name,num,kids⟩ j W) (fun _=>True) ?_;apply aR
    · intro x;go_simp;done
    · intro x W R hW hF hR;clear hF hW;unfold aN
      go_simp
      simp only[aF];exact hR _ (ah _ _)
    simp only[Act.put,aa,aj,am];refine cY (fun v W=>∃B,v=.slice (some ⟨B,0,none⟩) 0 T∧S<B∧W.ownsRow (S+1) 34 5 v 0 []) (fun _ _ _ h hb=>let ⟨B,h1,h2,h3⟩:=h;⟨B,h1,h2,bl h3 hb (fun g hg=>(h3.lt g hg).2)⟩) ?_ ?_ ?_
    · intro x;go_simp;done
    · intro x W R hW hF hR;have hlw:=ay hW.bx;clear hF;refine rU (.const (.int .i64 0)) (.tmp 25) 22 rfl (S+1) 34 i0 _ 5 Tryz.underlying22 hi hz0 hz1 .i64 .i64 T rfl rfl (by rw[hz2];omega) (by unfold maxLen;omega) (by omega) ?_;intro w' hown hg;exact hR _ _ ⟨_,rfl,hlw,hown⟩ ((ah _ _).grown hg (ag _) (fun k h=>by cases h))
    simp only[Act.put,aa,aj,am,au,aH,Nat.zero_add];apply aR
    · intro x;go_simp;done
    · intro x W R hW hF hR;have n0:=ac hW.bx 0;have n1:=ac hW.bx 1;have n2:=ac hW.bx 2;have n3:=ac hW.bx 3;have n4:=ac hW.bx 4;clear hF;unfold aN
      go_simp
      simp only[aF];exact hR _ (ah _ _)
    simp only[Act.put,aa,aj,am];refine cY (fun u W=>∃B,u=.slice (some ⟨B,0,none⟩) 1 1∧W.heap[B]? =some (.cells #[.int .i64 op,.int .i64 sort,.string name,.string num,.int .i64 j] 34 (0,0))) (fun _ _ _ h hb=>let ⟨B,h1,h2⟩:=h;⟨B,h1,(hb.block _ (ay h2)).trans h2⟩) ?_ ?_ ?_
    · intro x;go_simp;done
    · intro x W R hW hF hR;clear hF;unfold aN
      go_simp
      simp only[aF];exact hR _ _ ⟨W.heap.size,rfl,heap_alloc_new W _⟩ (aD W _)
    simp only[Act.put,aa,aj,am,au,aH,Nat.zero_add,Nat.reduceAdd];refine fG (fun x W=>NDB S w ⟨op,sort,name,num,kids⟩ j W∧∃B c,x 4=.slice (some ⟨B,0,none⟩) 1 c∧S<B∧W.ownsRow (S+1) 34 5 (x 4) 1 (bm [⟨op,sort,name,num,(j:Int)⟩])) (fun _ _ _ h hb=>let ⟨h0,B,c,h1,h2,h3⟩:=h;⟨h0.far hb,B,c,h1,h2,bl h3 hb (fun g hg=>(h3.lt g hg).2)⟩) (fun x x' w h hT=>by have e:=h 4 (.inl rfl);rw[e] at hT;exact hT) ?_ ?_ ?_
    · intro x;go_simp;done
    · intro x W R hW hF hD hR;obtain ⟨B2,hx2,hB2⟩:=hF.1.2 rfl rfl rfl;obtain ⟨B1,hx1,hlB,hown⟩:=hF.2.2.1.2 rfl rfl rfl;have hlw:=ay hW.bx;clear hF;simp only[hx1] at hown;simp only[hx2,hx1];refine dJ (.tmp 26) (.tmp 28) 22 rfl (S+1) 34 i0 _ 5 56 Tryz.underlying22 hi hz0 hz1 hz2 rfl (by decide) (.slice (some ⟨B1,0,none⟩) 0 T) 0 [] rfl hown ⟨B2,0,none⟩ 1 1 (bm [⟨op,sort,name,num,(j:Int)⟩]) rfl rfl (World.news_of_block (cs:=#[.int .i64 op,.int .i64 sort,.string name,.string num,.int .i64 j]) (t:=34) (fr:=(0,0)) hB2) (i5 _) (by decide) (by decide) (by omega) ?_;intro v' w' hrow hg;rw[List.nil_append] at hrow;refine hR _ _ ?_ trivial hg.size;show NDB S w ⟨op,sort,name,num,kids⟩ j w'∧∃B c,bM x 4 v' 4=.slice (some ⟨B,0,none⟩) 1 c∧S<B∧w'.ownsRow (S+1) 34 5 (bM x 4 v' 4) 1 (bm [⟨op,sort,name,num,(j:Int)⟩]);rw[bp];refine ⟨hW.grow hg (fun k e=>by have e':B1=k:=aG e;omega),?_⟩;obtain ⟨_,h1 | ⟨g,cap,cur,hv,_⟩⟩:=id hrow
      · exact absurd h1.2 (by decide)
      · exact ⟨g,cap,hv,by have:=(hrow.lt g (by rw[hv];rfl)).1;omega,hrow⟩
    simp only[Act.put,aa,aj,am,au,aH,Nat.zero_add,Nat.reduceAdd];refine ez (fun x=>x 5=x 4) (fun x x' hx h=>by rw[←hx 5 (.inl rfl),←hx 4 (.inr (List.contains_iff_mem.1 rfl))];exact h) ?_ ?_ ?_
    · intro x;go_simp;done
    · intro x W R hW hF hR;clear hF hW;unfold aN
      go_simp
      simp only[aF];refine hR _ _ ?_ (ah _ _);show bM x 5 _ 5=bM x 5 _ 4;rw[bp,bC (i:=5) (j:=4) _ _ (by decide)]
    simp only[Act.put,aa,aj,am,au,aH,Nat.zero_add,Nat.reduceAdd];refine cz (by kernel_rfl) (by kernel_rfl) (by kernel_rfl) (fun _ _ h hb=>h.far hb) (fun _ _ _ _=>trivial) (fun _ _=>trivial) (HN2.out.far (ah _ _).drew) ?_;intro x W hE hW hF hD;clear hD;obtain ⟨hnd,B,c,hx4,hSB,hrow⟩:=hF.2.1.2 rfl;have hx5:=hF.1.1;simp only[AK.free] at hx5;rw[hx4] at hx5;have HN3:=hid hnd;rw[hx4] at hrow;have HRW:=hid hrow;clear hF hW hnd hrow;simp only[hx5]
    go_wp2_with fail
    go_loopw [8,32] (fun v i wr=>∃(k B c:Nat),k≤j∧i=.int .i64 k∧v=.slice (some ⟨B,0,none⟩) (1+(L.take k).flatten.length) c∧S<B∧NDB S w ⟨op,sort,name,num,kids⟩ j wr∧wr.ownsRow (S+1) 34 5 v (1+(L.take k).flatten.length) (bm (⟨op,sort,name,num,(j:Int)⟩::(L.take k).flatten))) (fun _ i _=>j-(intOf i).toNat)
    case atStart=>exact ⟨0,B,c,aE _,rfl,rfl,hSB,HN3.out,HRW.out⟩
    case round=>
     clear HN3 HRW hSB hx4 hx5;obtain ⟨k,B,c,hk,rfl,rfl,hSB,hnd,hrow⟩:=hrel;have HN4:=hid hnd;have HR4:=hid hrow;clear hnd hrow;have hk0:(0:Int)≤(k:Int):=by omega
     by_cases hlt2:k<j
     · have hlt3:(k:Int)<(j:Int):=by omega
       have hl:k<L.length:=by rw[HL.out];exact hlt2
       obtain rfl:=HK.out.1 (by omega);have hKK:=HK.out.far (show Below w.heap.size w wr by rw[HS.out];exact HN4.out.bel);obtain ⟨g,c1,cc,hN,hgl⟩:=hKK.2.2 k L[k] (aq hl);have hnx:1+(L.take (k+1)).flatten.length=(1+(L.take k).flatten.length)+L[k].length:=by rw[d9 hl,aA];omega
       have hnf:bm (⟨op,sort,name,num,(j:Int)⟩::(L.take (k+1)).flatten)=bm (⟨op,sort,name,num,(j:Int)⟩::(L.take k).flatten)++bm L[k]:=by rw[d9 hl,←List.cons_append,nO]
       have hle:=HMO.out (k+1);have h1:1+(L.take k).flatten.length+L[k].length≤1000001:=by omega
       have HNF:=hid hnf;have HNX:=hid hnx;have HNN:=hid (e7 hN);have HFL:Hid ((bm L[k]).length=L[k].length*5):=hid (du _);have HON:=hid (i5 L[k]);have hSw:=ay HN4.out.bx;have hs1:1≤1+(L.take k).flatten.length:=by omega
       clear hle hnx hnf hN;generalize bm (⟨op,sort,name,num,(j:Int)⟩::(L.take k).flatten)=fl0 at *;generalize bm L[k]=fl1 at *;generalize 1+(L.take k).flatten.length=s0 at *;generalize L[k].length=ln at *
       go_wp2_with (at_builtin;go_loud (refine wpList_append_own _ rfl _ _ 22 rfl (S+1) 34 i0 _ 5 56 Tryz.underlying22 hi hz0 hz1 hz2 rfl (by decide) (.slice (some ⟨B,0,none⟩) s0 c) s0 fl0 rfl HR4.out ⟨g,0,none⟩ ln c1 fl1 rfl HFL.out (fun q u hq=>by rw[oT];exact HNN.out q u hq) HON.out (by unfold maxLen;omega) (by omega) (by omega) ?_))
       intro v' w4 hrow hg hnil0
       obtain ⟨B',c',hv',hB'⟩:∃B' c',v'=.slice (some ⟨B',0,none⟩) (s0+ln) c'∧S<B':=by
        obtain ⟨_,h1 | ⟨g,cap,cur,hv,_⟩⟩:=id hrow
        · exact absurd h1.2 (by omega)
        · exact ⟨g,cap,hv,by have:=(hrow.lt g (by rw[hv];rfl)).1;omega⟩
       subst hv';have HN5:=hid (HN4.out.grow hg (fun k e=>by have e':B=k:=aG e;omega));have HR5:=hid hrow;clear hrow hg HR4 HN4 cc
       go_wp2_with fail
       go_roundw
       case rel=>exact ⟨k+1,B',c',by omega,by go_num,by rw[HNX.out],hB',HN5.out,by rw[HNX.out,HNF.out];exact HR5.out⟩
       case measure=>simp[intOf];omega
     · obtain rfl:k=j:=by omega
       have hall:(L.take k).flatten=L.flatten:=by rw[aJ (by rw[HL.out];omega)]
       rw[hall] at HR4 ⊢
       have HFIN:Hid (fS w ⟨op,sort,name,num,kids⟩ L (.returned (.slice (some ⟨B,0,none⟩) (1+L.flatten.length) c)) wr):=hid (by
        have hrow:=HR4.out;refine ⟨B,c,rfl,dC (fun q hq=>?_),.row hrow,by rw[HS.out];omega,by rw[HS.out];exact HN4.out.bel⟩;have hq':q<(1+L.flatten.length)*5:=by simp only[au] at hq;omega
        rw[hrow.cellAt q hq'];show (bm (⟨op,sort,name,num,(k:Int)⟩::L.flatten))[q]? =(bm (⟨op,sort,name,num,(L.length:Int)⟩::L.flatten))[q]?
        rw[HL.out])
       clear HR4 HN4
       go_wp2
       go_ret
       exact HFIN.out
end
end Go.Proofs.YtapdbeaoakcjeaaGreatDoor.Se
/- (*reader).node: boxes and rows. -/
namespace Go.Proofs.YtapdbeaoakcjeaaGreatDoor.Se
open Go.RowKit Nmx
theorem wy:(Tryz.prog.info? 22).map (fun i=>(i.zero,i.size,i.bytes))=some (some (.slice none 0 0),1,24):=by kernel_rfl
theorem kM {P:Program} {o:Oper} {a:Act} {w:World} {R:Value→World→Prop} (l c:Operand) (t:TypeId) (ho:o.op=Op.makeSlice t l c)
    (base:Nat) (e:TypeId) (i:TypeInfo) (z:Value) (size:Nat) (h1:P.underlying t=some (.slice e)) (h2:P.info? e=some i) (h3:i.zero=some z) (h4:i.size=size)
    (kl kc:IntKind) (n:Nat) (hl:a.eval l=.int kl (n:Int)) (hc:a.eval c=.int kc (n:Int)) (b2:i.bytes*n≤281474976710656) (b3:n≤maxLen) (b4:base≤w.heap.size)
    (h:∀w',w'.ownsRow base e size (.slice (some ⟨w.heap.size,0,none⟩) n n) n (madeCells z.cells (n*size)).toList→w.grownBy w' none→R (.slice (some ⟨w.heap.size,0,none⟩) n n) w'):aN P o a w R:=by
 obtain ⟨w',hr,r1,r2⟩:=run_make_full (P:=P) w base t e i z size h1 h2 h3 h4 kl kc n b2 b3 b4;unfold aN execOp;simp only[ho,hl,hc,Sem.run_bind,hr,Result.andThen_ok];exact h w' r1 r2
theorem fD {w w':World} {b:Nat} {e:TypeId} {z:Nat} {v:Value} {n:Nat} {xs:List Value} (h:w.ownsRow b e z v n xs) (hb:∀g,v.ownBlock=some g→w'.heap[g]? =w.heap[g]?):w'.ownsRow b e z v n xs:=by
 obtain ⟨hl,h0 | ⟨g,cap,cur,hvv,hg,hh,r⟩⟩:=h
 · exact ⟨hl,.inl h0⟩
 · exact ⟨hl,.inr ⟨g,cap,cur,hvv,hg,by rw[hb g (by rw[hvv];rfl)];exact hh,r⟩⟩
def KSz (w:World) (ak:Option Addr) (gk:Nat) (L:List (List Nd×Int×Int)):Prop:=
 (L.length≠0→ak=some ⟨gk,0,none⟩)∧gk<w.heap.size∧∀j t,L[j]? =some t→∃g c,w.cell? ⟨gk,j*3,none⟩=some (.slice (some ⟨g,0,none⟩) t.1.length c)∧w.cell? ⟨gk,j*3+1,none⟩=some (.int .i64 t.2.1)∧w.cell? ⟨gk,j*3+2,none⟩=some (.int .i64 t.2.2)∧NodesAt w g t.1∧g<w.heap.size
theorem KSz.far {w w':World} {ak:Option Addr} {gk:Nat} {L:List (List Nd×Int×Int)} (h:KSz w ak gk L) (hb:Below w.heap.size w w'):KSz w' ak gk L:=
 ⟨h.1,ap h.2.1 hb.size,fun j t ht=>let ⟨g,c,h1,h2,h3,h4,h5⟩:=h.2.2 j t ht;⟨g,c,(hb.cell (p:=⟨gk,j*3,none⟩) h.2.1).trans h1,(hb.cell (p:=⟨gk,j*3+1,none⟩) h.2.1).trans h2,(hb.cell (p:=⟨gk,j*3+2,none⟩) h.2.1).trans h3,h4.below hb h5,ap h5 hb.size⟩⟩
def szL (L:List (List Nd×Int×Int)):Nat:=(L.map (·.1)).flatten.length
def dpL (L:List (List Nd×Int×Int)):Int:=L.foldl (fun d t=>max d t.2.1) 0
theorem take_one {α:Type} {L:List α} {j:Nat} (h:j<L.length):L.take (j+1)=L.take j++[L[j]]:=by
 rw[List.take_add_one,aq h];rfl
theorem wA {L:List (List Nd×Int×Int)} {j:Nat} (h:j<L.length):szL (L.take (j+1))=szL (L.take j)+L[j].1.length:=by
 unfold szL;rw[take_one h,List.map_append,List.flatten_append,aA];simp
theorem wB {L:List (List Nd×Int×Int)} {j:Nat} (h:j<L.length):dpL (L.take (j+1))=max (dpL (L.take j)) L[j].2.1:=by
 unfold dpL;rw[take_one h,List.foldl_append];rfl
theorem zd (L:List (List Nd×Int×Int)) (j:Nat):szL (L.take j)≤szL L:=by
 unfold szL;have:=congrArg (fun l=>(l.map (·.1)).flatten.length) (List.take_append_drop j L);simp only[List.map_append,List.flatten_append,aA] at this
 omega
structure NW (S:Nat) (w:World) (x:Nd) (B1 B2 n:Nat) (L:List (List Nd×Int×Int)) (k1 k2:Nat) (W:World):Prop where
 bx:W.heap[S]? =some (.cells #[.int .i64 x.op,.int .i64 x.sort,.string x.name,.string x.num,.int .i64 x.kids] 34 (0,0))
 rb:W.heap[S+1]? =some (.cells #[.slice none 0 0,.int .i64 0,.int .i64 0] 134 (0,0))
 r1:∃ss:List Int,ss.length=n∧(∀j,j<k1→ss[j]? =(L.map (·.2.2))[j]?)∧W.ownsRow (S+2) 3 1 (.slice (some ⟨B1,0,none⟩) n n) n (aX ss)
 r2:∃xs:List Value,xs.length=n∧(∀j t,j<k2→L[j]? =some t→∃g c,xs[j]? =some (.slice (some ⟨g,0,none⟩) t.1.length c)∧NodesAt w g t.1∧g<S)∧W.ownsRow (S+2) 22 1 (.slice (some ⟨B2,0,none⟩) n n) n xs
 bel:Below S w W
theorem NW.far {S:Nat} {w:World} {x:Nd} {B1 B2 n:Nat} {L:List (List Nd×Int×Int)} {k1 k2:Nat} {W W':World} (h:NW S w x B1 B2 n L k1 k2 W) (hb:Below W.heap.size W W'):NW S w x B1 B2 n L k1 k2 W':=
 ⟨(hb.block _ (ay h.bx)).trans h.bx,(hb.block _ (ay h.rb)).trans h.rb,let ⟨s,h1,h2,h3⟩:=h.r1;⟨s,h1,h2,bl h3 hb (fun g hg=>(h3.lt g hg).2)⟩,let ⟨s,h1,h2,h3⟩:=h.r2;⟨s,h1,h2,bl h3 hb (fun g hg=>(h3.lt g hg).2)⟩,h.bel.trans (hb.mono (aI (ay h.bx)))⟩
theorem NW.ne {S:Nat} {w:World} {x:Nd} {B1 B2 n:Nat} {L:List (List Nd×Int×Int)} {k1 k2:Nat} {W:World} (h:NW S w x B1 B2 n L k1 k2 W):B1≠B2∧S+2≤B1∧S+2≤B2:=by
 obtain ⟨s,-,-,h1⟩:=h.r1;obtain ⟨t,-,-,h2⟩:=h.r2;exact ⟨fun e=>eg h1 h2 (by decide) (g:=B1) rfl (by rw[e];rfl),(h1.lt B1 rfl).1,(h2.lt B2 rfl).1⟩
theorem NW.set1 {S:Nat} {w:World} {x:Nd} {B1 B2 n:Nat} {L:List (List Nd×Int×Int)} {k k2:Nat} {W:World} (h:NW S w x B1 B2 n L k k2 W) (hn:k<n) {v:Int} (hv:(L.map (·.2.2))[k]? =some v):NW S w x B1 B2 n L (k+1) k2 (W.setCell ⟨B1,k,none⟩ (.int .i64 v)):=by
 obtain ⟨hne,hb1,hb2⟩:=h.ne;refine ⟨(aB _ _ _ _ (by show S≠B1;omega)).trans h.bx,(aB _ _ _ _ (by show S+1≠B1;omega)).trans h.rb,?_,?_,h.bel.setCell (show S≤B1 by omega) _⟩
 · obtain ⟨ss,h1,h2,h3⟩:=h.r1;refine ⟨ss.set k v,by rw[aL];exact h1,fun j hj=>?_,?_⟩
   · by_cases hjk:j=k
     · subst hjk;rw[hv,List.getElem?_set_self (by omega)]
     · rw[List.getElem?_set_ne (fun e=>hjk e.symm)];exact h2 j (by omega)
   · have e:aX (ss.set k v)=(aX ss).set k (.int .i64 v):=by unfold aX;rw[List.map_set]
     rw[e];exact (h3.stored k (.int .i64 v)).1
 · obtain ⟨xs,h1,h2,h3⟩:=h.r2;exact ⟨xs,h1,h2,fD h3 (fun g hg=>by have e:B2=g:=aG hg;exact aB _ _ _ _ (by show g≠B1;omega))⟩
theorem NW.set2 {S:Nat} {w:World} {x:Nd} {B1 B2 n:Nat} {L:List (List Nd×Int×Int)} {k1 k:Nat} {W:World} (h:NW S w x B1 B2 n L k1 k W) (hn:k<n) {t:List Nd×Int×Int} (ht:L[k]? =some t) {g c:Nat} (hN:NodesAt w g t.1) (hg:g<S):NW S w x B1 B2 n L k1 (k+1) (W.setCell ⟨B2,k,none⟩ (.slice (some ⟨g,0,none⟩) t.1.length c)):=by
 obtain ⟨hne,hb1,hb2⟩:=h.ne;refine ⟨(aB _ _ _ _ (by show S≠B2;omega)).trans h.bx,(aB _ _ _ _ (by show S+1≠B2;omega)).trans h.rb,?_,?_,h.bel.setCell (show S≤B2 by omega) _⟩
 · obtain ⟨xs,h1,h2,h3⟩:=h.r1;exact ⟨xs,h1,h2,fD h3 (fun g hg=>by have e:B1=g:=aG hg;exact aB _ _ _ _ (by show g≠B2;omega))⟩
 · obtain ⟨xs,h1,h2,h3⟩:=h.r2;refine ⟨xs.set k (.slice (some ⟨g,0,none⟩) t.1.length c),by rw[aL];exact h1,fun j u hj hu=>?_,(h3.stored k (.slice (some ⟨g,0,none⟩) t.1.length c)).1⟩
   by_cases hjk:j=k
   · subst hjk;obtain rfl:t=u:=aG (ht.symm.trans hu);exact ⟨g,c,by rw[List.getElem?_set_self (by omega)],hN,hg⟩
   · rw[List.getElem?_set_ne (fun e=>hjk e.symm)];exact h2 j u (by omega) hu
theorem NW.cell1 {S:Nat} {w:World} {x:Nd} {B1 B2 n:Nat} {L:List (List Nd×Int×Int)} {k1 k2:Nat} {W:World} (h:NW S w x B1 B2 n L k1 k2 W) {j:Nat} (hj:j<n):(∃u,W.cell? ⟨B1,j,none⟩=some u)∧W.frozen? ⟨B1,j,none⟩=false:=by
 obtain ⟨ss,h1,h2,h3⟩:=h.r1;exact ⟨⟨_,(h3.cellAt j (by omega)).trans (by unfold aX;rw[List.getElem?_map,aq (by omega)];rfl)⟩,h3.frozenAt j⟩
theorem NW.cell2 {S:Nat} {w:World} {x:Nd} {B1 B2 n:Nat} {L:List (List Nd×Int×Int)} {k1 k2:Nat} {W:World} (h:NW S w x B1 B2 n L k1 k2 W) {j:Nat} (hj:j<n):(∃u,W.cell? ⟨B2,j,none⟩=some u)∧W.frozen? ⟨B2,j,none⟩=false:=by
 obtain ⟨xs,h1,h2,h3⟩:=h.r2;exact ⟨⟨_,(h3.cellAt j (by omega)).trans (aq (by omega))⟩,h3.frozenAt j⟩
theorem NW.rowI {S:Nat} {w:World} {x:Nd} {B1 B2:Nat} {L:List (List Nd×Int×Int)} {k2:Nat} {W:World} (h:NW S w x B1 B2 L.length L L.length k2 W) (hm:L.length≤1000000):RowI W (some ⟨B1,0,none⟩) B1 (L.map (·.2.2)):=by
 obtain ⟨ss,h1,h2,h3⟩:=h.r1
 have e:ss=L.map (·.2.2):=by
  apply List.ext_getElem?;intro j
  by_cases hj:j<L.length
  · exact h2 j hj
  · rw[List.getElem?_eq_none (by omega),List.getElem?_eq_none (by simp;omega)]
 subst e;refine ⟨fun _=>rfl,(h3.lt B1 rfl).2,by simp;omega,fun t ht=>?_⟩;rw[h3.cellAt t (by simpa using ht)];unfold aX;rw[List.getElem?_map,aq ht];rfl
theorem NW.kds {S:Nat} {w:World} {x:Nd} {B1 B2:Nat} {L:List (List Nd×Int×Int)} {k1:Nat} {W:World} (h:NW S w x B1 B2 L.length L k1 L.length W):Kds W (some ⟨B2,0,none⟩) B2 (L.map (·.1)):=by
 obtain ⟨xs,h1,h2,h3⟩:=h.r2;refine ⟨fun _=>rfl,(h3.lt B2 rfl).2,fun j t ht=>?_⟩;rw[List.getElem?_map] at ht;obtain ⟨u,hu,rfl⟩:=Option.map_eq_some_iff.1 ht;have hj:j<L.length:=(List.getElem?_eq_some_iff.1 hu).1;obtain ⟨g,c,q1,q2,q3⟩:=h2 j u hj hu;exact ⟨g,c,(h3.cellAt j (by omega)).trans q1,q2.below h.bel q3,Nat.lt_trans q3 (ay h.bx)⟩
end Go.Proofs.YtapdbeaoakcjeaaGreatDoor.Se

import Derived.Test.YthefknoicelhaaaGreatDoorRWS
import Derived.Test.YthefknoicelhaaaGreatDoorFZL
set_option maxRecDepth 100000
set_option maxHeartbeats 40000000
open Go.Lib (hid)
namespace Go.Proofs.YthefknoicelhaaaGreatDoor.Se
open Go.RowKit Nmx Go.Proofs.Tryz
theorem cz {w w':World} {o:Obj} (h:(w.alloc o).grownBy w' (some w.heap.size)):Below w.heap.size w w':=
 ((Below.refl w.heap.size w).alloc (Nat.le_refl _) o).grown h (by simp) (fun k hk=>by cases hk;exact Nat.le_refl _)
theorem da {w:World} {ao:Option Addr} {len cap:Nat} (h:ArgI w ao len cap):Ch w.heap.size ao (min len 400) cap (w.alloc (.cells #[.slice ao (min len 400) cap,.int .i64 0] 57)):=by
 refine ⟨⟨0,Nat.zero_le _,heap_alloc_new w _⟩,by omega,fun hn=>?_⟩;obtain ⟨b,off,e,hb,hx⟩:=h.rd (by have:=h.le;omega);refine ⟨b,off,e,hb,fun t ht=>?_⟩;obtain ⟨x,hx⟩:=hx t (by omega);exact ⟨x,(World.cell?_alloc_past _ _ _ hb).trans hx⟩
theorem bM:∀(a b:List UInt8),Lib.compareBytes a b=if Op.bytesLess a b then -1 else if a==b then 0 else 1:=by
 intro a
 induction a with
 | nil=>intro b;cases b <;> rfl
 | cons x a ih=>
   intro b;cases b with
   | nil=>rfl
   | cons y b=>
     show (if x<y then (-1:Int) else if y<x then 1 else Lib.compareBytes a b)=_;have hl:Op.bytesLess (x::a) (y::b)=(decide (x<y) || (x==y && Op.bytesLess a b)):=rfl;rw[hl]
     by_cases h1:x<y
     · rw[if_pos h1];simp[h1]
     · by_cases h2:y<x
       · have hne:¬x=y:=fun e=>by subst e;exact h1 h2
         rw[if_neg h1,if_pos h2];simp[h1,hne]
       · have he:x=y:=by
           have h3:=UInt8.not_lt.1 h1;have h4:=UInt8.not_lt.1 h2;exact UInt8.le_antisymm h4 h3
         subst he;rw[if_neg h1,if_neg h2,ih b]
         simp[h1]
inductive WX:Nat→Nat→List Nd→List Int→List Nat→List Int→Prop
 | nil (p:Nat):WX p 0 [] [] [] []
 | cons {p d e:Nat} {x:Nd} {ks rest:List Nd} {ss rs:List Int} {s:Int} {Ek Er:List Nat} {Sk Sr:List Int}:
     WX (p+1) d ks ss Ek Sk→NodeOk x ks ss s→WX (p+1+ks.length) e rest rs Er Sr→WX p (max (d+1) e) (x::(ks++rest)) (s::rs) ((p+1+ks.length)::(Ek++Er)) (s::(Sk++Sr))
theorem WX.we {p d:Nat} {ts:List Nd} {ss:List Int} {E:List Nat} {S:List Int} (h:WX p d ts ss E S):WE p d ts ss E S:=by
 induction h with
 | nil=>exact .nil _ _
 | @cons p d e _ _ _ _ _ _ _ _ _ _ _ hn _ ih1 ih2=>
   obtain ⟨m,hm⟩:∃m,max (d+1) e=m+1:=⟨max (d+1) e-1,by omega⟩
   rw[hm];exact .cons (ih1.mono m (by omega)) hn (ih2.mono (m+1) (by omega))
theorem WX.shift {p d:Nat} {ts:List Nd} {ss:List Int} {E:List Nat} {S:List Int} (h:WX p d ts ss E S):∀p',∃E',WX p' d ts ss E' S:=by
 induction h with
 | nil=>intro p';exact ⟨_,.nil _⟩
 | @cons p _ _ _ ks _ _ _ _ _ _ _ _ _ hn _ ihk ihr=>
   intro p';obtain ⟨F,hF⟩:=ihk (p'+1);obtain ⟨G,hG⟩:=ihr (p'+1+ks.length);exact ⟨_,.cons hF hn hG⟩
theorem bX {i:Nat} {op:List Nat} (h:∀y∈op,i<y):popE i op=op:=by
 unfold popE
 have e:op.reverse.dropWhile (fun x=>decide (x≤i))=op.reverse:=by
  cases hr:op.reverse with
  | nil=>rfl
  | cons y l=>
    have:=h y (List.mem_reverse.1 (by rw[hr];simp));rw[List.dropWhile_cons_of_neg (by simp;omega)]
 rw[e,List.reverse_reverse]
theorem aP {i:Nat} {op:List Nat} {y:Nat} (h:y∈popE i op):y∈op:=by
 unfold popE at h;exact List.mem_reverse.1 ((List.dropWhile_sublist _).subset (List.mem_reverse.1 h))
theorem WX.high {p d:Nat} {ts:List Nd} {ss:List Int} {E:List Nat} {S:List Int} (h:WX p d ts ss E S):∀(Et op:List Nat) (best:Nat),(∀y∈popE p op,p+ts.length≤y)→(popE p op).length≤best→
    ∃op',heightF p (E++Et) op best=heightF (p+ts.length) Et op' (max best ((popE p op).length+d))∧popE (p+ts.length) op'=popE (p+ts.length) op:=by
 induction h with
 | nil=>intro Et op best _ hb;exact ⟨op,by rw[Nat.add_zero,Nat.max_eq_left hb];rfl,rfl⟩
 | @cons p d e x ks rest ss rs s Ek Er Sk Sr hk hn hr ihk ihr=>
   intro Et op best hy hb;simp only[List.length_cons,List.length_append] at hy;have e0:(p+1+ks.length)::(Ek++Er)++Et=(p+1+ks.length)::(Ek++(Er++Et)):=by simp
   rw[e0];simp only[heightF]
   have hy1:∀y∈popE (p+1) (popE p op++[p+1+ks.length]),p+1+ks.length≤y:=fun y h=>by
    rcases List.mem_append.1 (aP h) with h | h
    · have:=hy y h;omega
    · rw[List.mem_singleton.1 h];exact Nat.le_refl _
   have hl1:(popE (p+1) (popE p op++[p+1+ks.length])).length≤(popE p op).length+1:=Nat.le_trans (popE_len _ _) (by simp);obtain ⟨o1,a1,a2⟩:=ihk (Er++Et) (popE p op++[p+1+ks.length]) (max best ((popE p op).length+1)) hy1 (by omega);rw[a1]
   have hpop:popE (p+1+ks.length) o1=popE (p+1+ks.length) op:=by
    rw[a2,popE_pop _ _ _ (Nat.le_refl _),popE_popE _ _ (by omega)]
   have hsub:popE (p+1+ks.length) op=popE (p+1+ks.length) (popE p op):=(popE_popE _ _ (by omega) _).symm;have hl2:(popE (p+1+ks.length) o1).length≤(popE p op).length:=by rw[hpop,hsub];exact popE_len _ _
   obtain ⟨o2,c1,c2⟩:=ihr Et o1 (max (max best ((popE p op).length+1)) ((popE (p+1) (popE p op++[p+1+ks.length])).length+d)) (fun y h=>by
    rw[hpop,hsub] at h
    have:=hy y (aP h);omega) (by omega)
   have e1:p+1+ks.length+rest.length=p+(x::(ks++rest)).length:=by simp only[List.length_cons,List.length_append];omega
   rw[c1,e1];rw[e1] at c2
   have hm:max (max (max best ((popE p op).length+1)) ((popE (p+1) (popE p op++[p+1+ks.length])).length+d)) ((popE (p+1+ks.length) o1).length+e)=max best ((popE p op).length+max (d+1) e):=by
    have g1:max ((popE p op).length+1) ((popE (p+1) (popE p op++[p+1+ks.length])).length+d)=(popE p op).length+1+d:=by
     cases hk with
     | nil=>omega
     | cons _ _ _=>
       rw[bX (i:=p+1) (op:=popE p op++[_])]
       · simp only[List.length_append,List.length_singleton];omega
       · intro y h;simp only[List.length_cons,List.length_append] at hy h;rcases List.mem_append.1 h with h | h
         · have:=hy y h;omega
         · have:=List.mem_singleton.1 h;omega
    have g2:(popE (p+1+ks.length) o1).length+e=(popE p op).length+e∨e=0:=by
     cases hr with
     | nil=>exact .inr rfl
     | cons _ _ _=>
       left
       rw[hpop,hsub,bX (i:=p+1+ks.length) (op:=popE p op)];intro y h;simp only[List.length_cons] at hy;have:=hy y h;omega
    omega
   rw[hm];refine ⟨o2,rfl,?_⟩;rw[c2,←popE_popE _ (p+1+ks.length) (by simp only[List.length_cons,List.length_append];omega) o1,hpop,popE_popE _ _ (by simp only[List.length_cons,List.length_append];omega)]
theorem WX.hgt {d:Nat} {ts:List Nd} {ss:List Int} {E:List Nat} {S:List Int} (h:WX 0 d ts ss E S):heightF 0 E [] 0=d:=by
 obtain ⟨o,h1,-⟩:=h.high [] [] 0 (fun y h=>by cases aP h) (Nat.le_refl _);rw[List.append_nil] at h1;rw[h1];simp only[heightF];have:(popE 0 []).length=0:=rfl
 omega
theorem b9 (L:List (List Nd×Int×Int)):∀a:Int,0≤a→L.foldl (fun d t=>max d t.2.1) a=max a (dpL L):=by
 unfold dpL
 induction L with
 | nil=>intro a ha;simp only[List.foldl_nil];omega
 | cons k L ih=>
   intro a ha;simp only[List.foldl_cons];rw[ih (max a k.2.1) (by omega),ih (max 0 k.2.1) (by omega)]
   omega
theorem cA (k:List Nd×Int×Int) (L:List (List Nd×Int×Int)):dpL (k::L)=max (max 0 k.2.1) (dpL L):=by
 have:=b9 L (max 0 k.2.1) (by omega);unfold dpL at this ⊢;rw[List.foldl_cons];exact this
theorem WX.split {p d:Nat} {ts:List Nd} {ss:List Int} {E:List Nat} {S:List Int} (h:WX p d ts ss E S):∃L:List (List Nd×Int×Int),ts=(L.map (·.1)).flatten∧ss=L.map (·.2.2)∧dpL L=d∧∀k∈L,∃dk:Nat,k.2.1=dk∧∃E S,WX 0 dk k.1 [k.2.2] E S:=by
 induction h with
 | nil=>exact ⟨[],rfl,rfl,rfl,fun k h=>by cases h⟩
 | @cons p d e x ks rest ss rs s Ek Er Sk Sr hk hn hr ihk ihr=>
   obtain ⟨L,h1,h2,h3,h4⟩:=ihr;refine ⟨(x::ks,((d+1:Nat):Int),s)::L,by simp[h1],by simp[h2],by rw[cA,h3];show max (max (0:Int) ((d+1:Nat):Int)) (e:Int)=((max (d+1) e:Nat):Int);omega,fun k hk'=>?_⟩;rcases List.mem_cons.1 hk' with rfl | hk'
   · obtain ⟨F,hF⟩:=hk.shift 1;have:=WX.cons (p:=0) hF hn (.nil _);rw[List.append_nil,Nat.max_zero] at this;exact ⟨d+1,rfl,_,_,this⟩
   · exact h4 k hk'
theorem WX.kids {d:Nat} {ts:List Nd} {s:Int} {E:List Nat} {S:List Int} (h:WX 0 d ts [s] E S):∃(x:Nd) (L:List (List Nd×Int×Int)),ts=x::(L.map (·.1)).flatten∧NodeOk x (L.map (·.1)).flatten (L.map (·.2.2)) s∧dpL L+1=d∧∀k∈L,∃dk:Nat,k.2.1=dk∧∃E S,WX 0 dk k.1 [k.2.2] E S:=by
 cases h with
 | cons hk hn hr=>
   cases hr with
   | nil=>
     obtain ⟨L,h1,h2,h3,h4⟩:=hk.split;refine ⟨_,L,by rw[List.append_nil,h1],by rw[←h1,←h2];exact hn,by rw[h3];omega,h4⟩
theorem db (g o q:Nat):(⟨g,o,none⟩:Addr).add q=⟨g,o+q,none⟩:=by
 unfold Addr.add
 split
 · rename_i h;rw[h,Nat.add_zero]
 · rfl
theorem aJ (g o n c:Nat) (ts:List Nd) (w:World) (hn:ts.length=n) (h0:0<n) (hm:n≤1000000) (hN:∀(j:Nat) (u:Value),(flatN ts)[j]? =some u→w.cell? ⟨g,o+j,none⟩=some u) (hg:g<w.heap.size):
    Calls prog 56 #[.slice (some ⟨g,o,none⟩) n c] w fun e w'=>∃g' c',e=.returned (.slice (some ⟨g',0,none⟩) n c')∧NodesAt w' g' ts∧Sft w' g' n∧w.heap.size≤g'∧Below w.heap.size w w':=by
 obtain ⟨i0,hi,hz0,hz1,hz2⟩:=info_parts infoNode;have HN:=hid hN;have HL:=hid hn;have HFL:Hid ((flatN ts).length=n*5):=hid (by rw[flatN_len,hn]);have HON:=hid (nd_one ts);clear hN hn;have hq:∀w':World,(binOp .eql 26 (.slice (some ⟨g,o,none⟩) n c) (.slice none 0 0)).run prog w'=.ok (.bool false) w':=fun w'=>Lib.run_eql_slice_nil w' _ _ (some ⟨g,o,none⟩) n c 0 0 underlying26
 go_enter func56,ntmps56
 have hown:(w.alloc (.cells #[] 51)).ownsRow w.heap.size 51 5 (.slice (some ⟨w.heap.size,0,none⟩) 0 0) 0 []:=⟨rfl,.inr ⟨w.heap.size,0,#[],rfl,Nat.le_refl _,heap_alloc_new w _,Nat.le_refl _,by unfold maxLen;omega,rfl,rfl⟩⟩
 have hgw:∀q,(w.alloc (.cells #[] 51)).cell? ⟨g,q,none⟩=w.cell? ⟨g,q,none⟩:=fun q=>(alloc_far' w _).cell (p:=⟨g,q,none⟩) hg
 have HOW:=hid hown;have HGW:=hid hgw;clear hown hgw
 go_wp2_with (at_builtin;go_loud (refine wpList_append_own _ rfl _ _ 26 rfl w.heap.size 51 i0 _ 5 56 underlying26 hi hz0 hz1 hz2 rfl (by decide) (.slice (some ⟨w.heap.size,0,none⟩) 0 0) 0 [] rfl HOW.out ⟨g,o,none⟩ n c (flatN ts) rfl HFL.out (fun q u hq=>by rw[db];exact (HGW.out _).trans (HN.out q u hq)) HON.out (by unfold maxLen;omega) (by omega) (by simp) ?_))
 intro v' w4 hrow hgr hnil0;have hb:Below w.heap.size w w4:=(alloc_far' w _).grown hgr (by simp) (fun k e=>by have e':w.heap.size=k:=Option.some.inj e;omega)
 obtain ⟨B',c',hv'⟩:∃B' c',v'=.slice (some ⟨B',0,none⟩) n c':=by
  obtain ⟨_,h1 | ⟨g,cap,cur,hv,_⟩⟩:=id hrow
  · exact absurd h1.2 (by omega)
  · exact ⟨g,cap,hv⟩
 subst hv';have HRW:=hid hrow;have HB:=hid hb;clear hrow hgr hnil0 hb
 go_wp2
 go_ret
 exact ⟨B',c',rfl,flat_nodes (fun q hq=>HRW.out.cellAt q (by rw[HL.out] at hq;exact hq)),.row HRW.out,(HRW.out.lt B' rfl).1,HB.out⟩
end Go.Proofs.YthefknoicelhaaaGreatDoor.Se
namespace Go.Proofs.YthefknoicelhaaaGreatDoor.Se
open Go.RowKit Nmx Go.Proofs.Tryz
open Go.MapKept
def rnF (L:List (ByteArray×ByteArray)) (x:Nd):Nd:=if x.op=4 then (match lookA x.name L with | some s=>{ x with name:=s } | none=>x) else x
def asR (L:List (ByteArray×ByteArray)):List (ByteArray×Value):=L.map fun p=>(p.1,.string p.2)
theorem aA {k:ByteArray}:∀{L:List (ByteArray×ByteArray)} (i:Nat),lookA k L=none→findS k (asR L) i=none
 | [],_,_=>rfl
 | p::L,i,h=>by
   unfold lookA at h;unfold asR;rw[List.map_cons];unfold findS
   by_cases hk:k=p.1
   · rw[if_pos hk] at h;cases h
   · rw[if_neg hk] at h ⊢;exact aA (i+1) h
theorem aQ {k v:ByteArray}:∀{L:List (ByteArray×ByteArray)} (i:Nat),lookA k L=some v→∃j,findS k (asR L) i=some (j,.string v)
 | [],_,h=>by cases h
 | p::L,i,h=>by
   unfold lookA at h;unfold asR;rw[List.map_cons];unfold findS
   by_cases hk:k=p.1
   · rw[if_pos hk] at h ⊢;rw[Option.some.inj h];exact ⟨i,rfl⟩
   · rw[if_neg hk] at h ⊢;exact aQ (i+1) h
theorem aY {k:ByteArray}:∀{L:List (ByteArray×ByteArray)},k ∉ L.map Prod.fst→lookA k L=none
 | [],_=>rfl
 | p::L,h=>by
   rw[List.map_cons,List.mem_cons,not_or] at h;unfold lookA;rw[if_neg h.1];exact aY h.2
theorem cB {L:List (ByteArray×ByteArray)} {k:Nat} (h:k<L.length):asR (L.take (k+1))=asR (L.take k)++[(L[k].1,.string L[k].2)]:=by
 unfold asR;rw[List.take_succ_eq_append_getElem h,List.map_append];rfl
theorem ca {L:List (ByteArray×ByteArray)} (hn:(L.map Prod.fst).Nodup) {k:Nat} (h:k<L.length):lookA L[k].1 (L.take k)=none:=by
 refine aY fun hm=>?_
 rw[List.map_take] at hm;obtain ⟨i,hi,he⟩:=List.getElem_of_mem hm;rw[List.length_take,List.length_map] at hi;rw[List.getElem_take,←List.getElem_map (f:=Prod.fst) (h:=by rw[List.length_map];exact h)] at he;have:=(List.getElem_inj hn).1 he
 omega
def OutB (w:World) (g:Nat) (ts:List Nd):Prop:=∃cs ty,w.heap[g]? =some (.cells cs ty (0,0))∧∀j,j<ts.length*5→cs[j]? =(flatN ts)[j]?
theorem OutB.nodes {w:World} {g:Nat} {ts:List Nd} (h:OutB w g ts):NodesAt w g ts:=by
 obtain ⟨cs,ty,h1,h2⟩:=h;exact flat_nodes fun j hj=>(cell_of_row w g j cs ty (0,0) h1).trans (h2 j hj)
theorem OutB.lt {w:World} {g:Nat} {ts:List Nd} (h:OutB w g ts):g<w.heap.size:=let ⟨_,_,h1,_⟩:=h;lt_of_heap h1
theorem OutB.far {w w':World} {g:Nat} {ts:List Nd} (h:OutB w g ts) (hb:Below w.heap.size w w'):OutB w' g ts:=let ⟨cs,ty,h1,h2⟩:=h;⟨cs,ty,(hb.block _ (lt_of_heap h1)).trans h1,h2⟩
theorem OutB.of {w:World} {g n:Nat} {ts:List Nd} (hs:Sft w g n) (hN:NodesAt w g ts):OutB w g ts:=by
 obtain ⟨cs,ty,h1,h2⟩:=hs;refine ⟨cs,ty,h1,fun j hj=>?_⟩;have hj':=nodes_flat hN j _ (List.getElem?_eq_getElem (by rw[flatN_len];exact hj));rw[cell_of_row w g j cs ty (0,0) h1] at hj';rw[hj',List.getElem?_eq_getElem (by rw[flatN_len];exact hj)]
theorem aZ:∀(ts:List Nd) (i:Nat) (s:ByteArray) (h:i<ts.length),flatN (ts.set i { ts[i] with name:=s })=(flatN ts).set (i*5+2) (.string s)
 | [],_,_,h=>by cases h
 | x::ts,0,s,_=>rfl
 | x::ts,i+1,s,h=>by
   have hi:i<ts.length:=by simpa using h
   have ih:=aZ ts i s hi;have e:flatN (x::ts)=x.cells++flatN ts:=rfl;rw[List.set_cons_succ,List.getElem_cons_succ,show flatN (x::ts.set i { ts[i] with name:=s })=x.cells++flatN (ts.set i { ts[i] with name:=s }) from rfl,ih,e];rw[List.set_append,if_neg (by show ¬_<5;omega)]
   congr 2
   show i*5+2=(i+1)*5+2-5
   omega
theorem OutB.set {w:World} {g i:Nat} {ts:List Nd} {s:ByteArray} (h:OutB w g ts) (hi:i<ts.length):OutB (w.setCell ⟨g,i*5+2,none⟩ (.string s)) g (ts.set i { ts[i] with name:=s }):=by
 obtain ⟨cs,ty,h1,h2⟩:=h;refine ⟨_,ty,heap_set h1 (i*5+2) (.string s),fun j hj=>?_⟩;rw[List.length_set] at hj;rw[aZ ts i s hi,Array.getElem?_setIfInBounds,List.getElem?_set];have h0:=h2 j hj
 by_cases he:i*5+2=j
 · subst he
   have hlt:i*5+2<cs.size:=by
    rw[List.getElem?_eq_getElem (by rw[flatN_len];exact hj)] at h0;exact (Array.getElem?_eq_some_iff.1 h0).1
   rw[if_pos rfl,if_pos rfl,if_pos hlt,if_pos (by rw[flatN_len];exact hj)]
 · rw[if_neg he,if_neg he,h0]
theorem dc {L:List (ByteArray×ByteArray)} {ts:List Nd} {k:Nat} (h:k<ts.length):(ts.take (k+1)).map (rnF L)++ts.drop (k+1)=((ts.take k).map (rnF L)++ts.drop k).set k (rnF L ts[k]):=by
 have hl:((ts.take k).map (rnF L)).length=k:=by rw[List.length_map,List.length_take];omega
 rw[List.set_append,if_neg (by omega),hl,Nat.sub_self,List.drop_eq_getElem_cons h,List.set_cons_zero,List.take_succ_eq_append_getElem h,List.map_append,List.append_assoc];rfl
theorem dO {L:List (ByteArray×ByteArray)} {ts:List Nd} {k:Nat} (h:k<ts.length):((ts.take k).map (rnF L)++ts.drop k)[k]? =some ts[k]:=by
 have hl:((ts.take k).map (rnF L)).length=k:=by rw[List.length_map,List.length_take];omega
 rw[List.getElem?_append_right (by omega),hl,Nat.sub_self,List.drop_eq_getElem_cons h];rfl
theorem bA {α:Type} {l:List α} {k:Nat} {x:α} (h:l[k]? =some x):l.set k x=l:=by
 obtain ⟨hk,rfl⟩:=List.getElem?_eq_some_iff.1 h;exact List.set_getElem_self hk
theorem bY (w:World):(zeroValue 9).run prog w=.ok (.string ⟨#[]⟩) w:=by kernel_rfl
theorem bB (s:ByteArray) (w:World):Calls prog 25 #[.string s] w fun e w'=>e=.returned (.bool (!nameF s.toList))∧w'=w:=by
 have h:=isName_any s w
 go_enter func25,ntmps25
 go_wp2_with fail
 refine h.mono ?_;rintro e w2 ⟨rfl,rfl⟩
 go_wp2
 go_ret
 exact ⟨rfl,rfl⟩
theorem aTq (l:List (List UInt8)) (g n cap:Nat) (w:World) (hn:l.length=n) (hl:n≤1000) (hB:Strs w (some ⟨g,0,none⟩) g l) (hN:∀x∈l,nameF x=true):
    Calls prog 55 #[.slice (some ⟨g,0,none⟩) n cap,.func (.func 25) #[] #[]] w fun e w'=>e=.returned (.int .i64 (-1))∧w'=w:=by
 have HB:=hid hB;have HN:=hid hN;have HL:=hid hn;clear hB hN hn
 go_enter func55,ntmps55
 go_wp2
 go_loop [8] (fun i=>∃k:Nat,k≤n∧i=.int .i64 k) (fun i=>n-(intOf i).toNat)
 case atStart=>exact ⟨0,Nat.zero_le _,rfl⟩
 case round=>
  obtain ⟨k,hk,rfl⟩:=hrel
  by_cases hlt:k<n
  · have hkl:k<l.length:=by rw[HL.out];exact hlt
    have hlti:(k:Int)<(n:Int):=by omega
    have hc:=HB.out.cells k _ (List.getElem?_eq_getElem hkl);have hd:=bB ⟨l[k].toArray⟩ w;rw[toList_mk,HN.out _ (List.getElem_mem hkl)] at hd;generalize (⟨l[k].toArray⟩:ByteArray)=s at *;clear hkl
    go_wp2_with (go_at_call 25;refine hd.mono ?_;rintro e w1 ⟨rfl,hw1⟩;obtain rfl:=hw1.symm)
    go_round
    case rel=>exact ⟨k+1,by omega,by go_num⟩
    case measure=>simp[intOf];omega
  · have hlti:¬(k:Int)<(n:Int):=by omega
    go_wp2
    go_ret
    exact ⟨rfl,rfl⟩
theorem aq (l:List (List UInt8)) (g n cap:Nat) (w:World) (hn:l.length=n) (hl:n≤1000) (hB:Strs w (some ⟨g,0,none⟩) g l) (hN:∀x∈l,nameF x=true):
    Calls prog 28 #[.slice (some ⟨g,0,none⟩) n cap,.func (.func 25) #[] #[]] w fun e w'=>e=.returned (.bool false)∧w'=w:=by
 have hi:=aTq l g n cap w hn hl hB hN;clear hB hN
 go_enter func28,ntmps28
 go_wp2_with fail
 refine hi.mono ?_;rintro e w1 ⟨rfl,rfl⟩;clear hi
 go_wp2
 go_ret
 exact ⟨rfl,rfl⟩
theorem bN (g n c:Nat) (ts:List Nd) (w:World) (hn:ts.length=n) (h0:0<n) (hm:n≤1000000) (hN:NodesAt w g ts) (hg:g<w.heap.size):
    Calls prog 29 #[.slice (some ⟨g,0,none⟩) n c] w fun e w'=>∃g' c',e=.returned (.slice (some ⟨g',0,none⟩) n c')∧OutB w' g' ts∧w.heap.size≤g'∧Below w.heap.size w w':=by
 have hc:=aJ g 0 n c ts w hn h0 hm (fun j u hu=>by rw[Nat.zero_add];exact nodes_flat hN j u hu) hg;clear hN
 go_enter func29,ntmps29
 go_wp2_with fail
 refine hc.mono ?_;rintro e w' ⟨g',c',rfl,h1,h2,h3,h4⟩;have H1:=hid (OutB.of h2 h1);have H4:=hid h4;clear h1 h2 h4 hc
 go_wp2
 go_ret
 exact ⟨g',c',rfl,H1.out,h3,H4.out⟩
theorem a5 (ts:List Nd) (L:List (ByteArray×ByteArray)) (g cap g1 c1 g2 c2 n:Nat) (w:World) (hv:vdF (naF ts) ts=true) (hno:∀x∈ts,¬x.op=5) (hsm:∀x∈ts,x.num.size≤1000) (hl:ts.length≤20000) (h0:0<ts.length) (hN:NodesAt w g ts) (hg:g<w.heap.size)
    (h1:Strs w (some ⟨g1,0,none⟩) g1 (L.map fun p=>p.1.toList)) (h2:Strs w (some ⟨g2,0,none⟩) g2 (L.map fun p=>p.2.toList)) (hn:L.length=n) (hn1:n≤1000) (hna:∀p∈L,nameF p.1.toList=true∧nameF p.2.toList=true) (hnd:(L.map Prod.fst).Nodup) (hus:(usF (ts.map (rnF L)) true []).1=true) (hEn:Env w):
    Calls prog 11 #[.slice (some ⟨g,0,none⟩) ts.length cap,.slice (some ⟨g1,0,none⟩) n c1,.slice (some ⟨g2,0,none⟩) n c2] w fun e w'=>∃g' c',e=.returned (.tuple #[.slice (some ⟨g',0,none⟩) ts.length c',.int .i64 0])∧NodesAt w' g' (ts.map (rnF L))∧g'<w'.heap.size∧Below w.heap.size w w':=by
 have hvd:=valid_of (chk_vars g cap ts w hl hg hN hsm hEn hno);rw[hv] at hvd;have hm1:=@run_makeMap0 prog 60;have HN:=hid hN;have H1:=hid h1;have H2:=hid h2;have HL:=hid hn;have HND:=hid hnd;have HUS:=hid hus;have HNO:=hid hno;have HNA1:Hid (∀x∈L.map (fun p=>p.1.toList),nameF x=true):=hid fun x hx=>by obtain ⟨p,hp,rfl⟩:=List.mem_map.1 hx;exact (hna p hp).1
 have HNA2:Hid (∀x∈L.map (fun p=>p.2.toList),nameF x=true):=hid fun x hx=>by obtain ⟨p,hp,rfl⟩:=List.mem_map.1 hx;exact (hna p hp).2
 clear hN h1 h2 hn hnd hus hno hna hsm hEn hv;obtain ⟨m,hm⟩:∃m,ts.length=m:=⟨_,rfl⟩
 have HM:=hid hm;rw[hm] at hl h0 hvd ⊢;clear hm
 go_enter func11,ntmps11
 go_wp2_with fail
 refine hvd.mono ?_;rintro e w2 ⟨rfl,hb2⟩;have HB2:=hid hb2;have hc1:=aq (L.map fun p=>p.1.toList) g1 n c1 w2 (by rw[List.length_map,HL.out]) hn1 (H1.out.far hb2) HNA1.out;have hc2:=aq (L.map fun p=>p.2.toList) g2 n c2 w2 (by rw[List.length_map,HL.out]) hn1 (H2.out.far hb2) HNA2.out;clear hvd hb2 HNA1 HNA2
 go_wp2_with fail
 refine hc1.mono ?_;rintro e w3 ⟨rfl,hw3⟩;obtain rfl:=hw3.symm
 go_wp2_with fail
 refine hc2.mono ?_;rintro e w4 ⟨rfl,hw4⟩;obtain rfl:=hw4.symm;have HMM:=hid (MapS.made w2);have HBM:=hid (HB2.out.trans ((alloc_far' w2 (.map #[] 0)).mono HB2.out.size));have HSZ:=hid HB2.out.size;clear hc1 hc2 hw3 hw4 HB2
 go_wp2
 generalize hw1:w2.alloc (.map #[] 0)=w1 at *;generalize hMM:w2.heap.size=M at *;clear hw1 hMM hm1
 go_loopw [42] (fun iv wr=>∃k:Nat,k≤n∧iv=.int .i64 k∧MapS wr M (asR (L.take k))∧Below w.heap.size w wr) (fun iv _=>n-(intOf iv).toNat)
 case atStart=>exact ⟨0,Nat.zero_le _,rfl,HMM.out,HBM.out⟩
 case round=>
  obtain ⟨k,hk,rfl,hmp,hb⟩:=hrel;clear HMM HBM;have HP:=hid hmp;have HB:=hid hb;clear hmp hb
  by_cases hlt:k<n
  · have hkl:k<L.length:=by rw[HL.out];exact hlt
    have hlti:(k:Int)<(n:Int):=by omega
    have hc1:=((H1.out.far HB.out).cells k _ (by rw[List.getElem?_map,List.getElem?_eq_getElem hkl];rfl))
    have hc2:=((H2.out.far HB.out).cells k _ (by rw[List.getElem?_map,List.getElem?_eq_getElem hkl];rfl))
    rw[←bytes_of (s:=L[k].1) rfl] at hc1;rw[←bytes_of (s:=L[k].2) rfl] at hc2;have HF:=hid (aA 0 (ca HND.out hkl));have HS:=hid (cB hkl);generalize L[k].1=s1 at *;generalize L[k].2=s2 at *;clear hkl
    go_wp2_with (first | (at_lookup;go_loud (refine wpList_look_miss rfl 9 9 60 _ _ rfl underlying9 underlying60 M _ rfl HP.out s1 rfl _ HF.out (bY _) ?_)) | (at_mapUpdate;go_loud (refine aI rfl 9 9 60 _ _ _ rfl underlying9 underlying60 M _ rfl HP.out s1 rfl _ rfl HF.out ?_)))
    intro w4 hm4 hgr;have HN4:Hid (MapS w4 M (asR (L.take (k+1)))):=hid (by rw[HS.out];exact hm4);have HB4:=hid (HB.out.grown hgr HB.out.size (fun j e=>by cases e;exact HSZ.out));clear hm4 hgr HP HB HF HS
    go_wp2_with fail
    go_roundw
    case rel=>exact ⟨k+1,by omega,by go_num,HN4.out,HB4.out⟩
    case measure=>simp[intOf];omega
  · have hlti:¬(k:Int)<(n:Int):=by omega
    have HPL:Hid (MapS wr M (asR L)):=hid (by have:=HP.out;rwa [List.take_of_length_le (by rw[HL.out];omega)] at this);have hcl:=bN g m cap ts wr HM.out h0 (by omega) (HN.out.below HB.out hg) (Nat.lt_of_lt_of_le hg HB.out.size);clear HP hlt hk
    go_wp2_with fail
    refine hcl.mono ?_;rintro e w5 ⟨O,cO,rfl,ho,hO,hb5⟩;have HO5:=hid ho;have HP5:=hid (HPL.out.far hb5);have HB5:=hid (HB.out.trans (hb5.mono HB.out.size));have HOM:Hid (M<O∧w.heap.size≤O):=hid ⟨Nat.lt_of_lt_of_le HPL.out.lt hO,Nat.le_trans HB.out.size hO⟩;clear hcl ho hb5 hO HPL HB hlti H1 H2
    go_wp2
    go_loopw [65] (fun iv wr=>∃k:Nat,k≤m∧iv=.int .i64 k∧OutB wr O ((ts.take k).map (rnF L)++ts.drop k)∧MapS wr M (asR L)∧Below w.heap.size w wr) (fun iv _=>m-(intOf iv).toNat)
    case atStart=>exact ⟨0,Nat.zero_le _,rfl,by simpa using HO5.out,HP5.out,HB5.out⟩
    case round=>
     obtain ⟨k,hk,rfl,ho,hmp,hb⟩:=hrel;clear HO5 HP5 HB5;have HO:=hid ho;have HP:=hid hmp;have HB:=hid hb;clear ho hmp hb
     by_cases hlt:k<m
     · have hkl:k<ts.length:=by rw[HM.out];exact hlt
       have hlti:(k:Int)<(m:Int):=by omega
       have hx:=dO (L:=L) hkl;have hcc:=HO.out.nodes k _ hx;have c0:=hcc 0 (by omega);have c1:=hcc 1 (by omega);have c2:=hcc 2 (by omega);have c3:=hcc 3 (by omega);have c4:=hcc 4 (by omega);have HST:=hid (dc (L:=L) hkl);have HX:=hid hx;clear hcc hx;generalize ts[k]=x at *;clear hkl;obtain ⟨op,sort,name,num,kids⟩:=x;simp only[Nd.cells,List.getElem?_cons_succ,List.getElem?_cons_zero,Nat.add_zero] at c0 c1 c2 c3 c4;have hal:=alloc_far' wr (.cells #[.int .i64 op,.int .i64 sort,.string name,.string num,.int .i64 kids] 51);have hbx:=heap_alloc_new wr (.cells #[.int .i64 op,.int .i64 sort,.string name,.string num,.int .i64 kids] 51);have HOA:=hid (HO.out.far hal);have HPA:=hid (HP.out.far hal);have HBA:=hid (HB.out.trans (hal.mono HB.out.size));have q0:=heap_cell hbx 0;have q2:=heap_cell hbx 2;clear hal hbx;cases hlk:lookA name L with
       | none=>
         have HF:=hid (aA 0 hlk)
         have hrn:rnF L ⟨op,sort,name,num,kids⟩=⟨op,sort,name,num,kids⟩:=by
          unfold rnF
          split
          · simp only[hlk]
          · rfl
         rw[hrn] at HST
         have HO2:Hid (OutB (wr.alloc (.cells #[.int .i64 op,.int .i64 sort,.string name,.string num,.int .i64 kids] 51)) O ((ts.take (k+1)).map (rnF L)++ts.drop (k+1))):=hid (by
          rw[HST.out,bA HX.out];exact HOA.out)
         clear hlk hrn HST HX HO HP HB HOA
         go_wp2_with (at_lookup;go_loud (refine wpList_look_miss rfl 9 9 60 _ _ rfl underlying9 underlying60 M _ rfl HPA.out name rfl _ HF.out (bY _) ?_))
         go_roundw
         case rel=>exact ⟨k+1,by omega,by go_num,HO2.out,HPA.out,HBA.out⟩
         case measure=>simp[intOf];omega
       | some s=>
         obtain ⟨jf,hjf⟩:=aQ 0 hlk;have HF:=hid hjf
         by_cases q4:op=4
         · subst q4
           have hrn:rnF L ⟨4,sort,name,num,kids⟩=⟨4,sort,s,num,kids⟩:=by
            unfold rnF;rw[if_pos rfl];simp only[hlk]
           rw[hrn] at HST;have hil:=(List.getElem?_eq_some_iff.1 HX.out).1
           have hio:((ts.take k).map (rnF L)++ts.drop k).length=m:=by
            rw[List.length_append,List.length_map,List.length_take,List.length_drop,HM.out];omega
           have HO2:=hid (HOA.out.set (i:=k) (s:=s) hil);have hge:((ts.take k).map (rnF L)++ts.drop k)[k]=⟨4,sort,name,num,kids⟩:=(List.getElem?_eq_some_iff.1 HX.out).2;rw[hge] at HO2;simp only at HO2;rw[←HST.out] at HO2;obtain ⟨cs,ty,hob,-⟩:=HOA.out
           have hcs:k*5+2<cs.size:=by
            have:=HOA.out.nodes k _ HX.out 2 (by omega);rw[cell_of_row _ O (k*5+2) cs ty (0,0) hob] at this;exact (Array.getElem?_eq_some_iff.1 this).1
           have z2:=heap_fz hob (k*5+2);have d2:(wr.alloc (.cells #[.int .i64 4,.int .i64 sort,.string name,.string num,.int .i64 kids] 51)).cell? ⟨O,k*5+2,none⟩=some (.string name):=HOA.out.nodes k _ HX.out 2 (by omega);have HP2:=hid (HPA.out.but (w':=(wr.alloc (.cells #[.int .i64 4,.int .i64 sort,.string name,.string num,.int .i64 kids] 51)).setCell ⟨O,k*5+2,none⟩ (.string s)) (Below.heap_setCell _ ⟨O,k*5+2,none⟩ _ _ (by have:=HOM.out.1;show M≠O;omega)));have HB2:=hid (HBA.out.setCell (p:=⟨O,k*5+2,none⟩) HOM.out.2 (.string s));clear hlk hrn HST HX HO HP HB HOA hjf hil hio hge hob hcs HBA
           go_wp2_with (at_lookup;go_loud (refine wpList_look_hit rfl 9 9 60 _ _ rfl underlying9 underlying60 M _ rfl HPA.out name rfl jf (.string s) HF.out ?_))
           go_roundw
           case rel=>exact ⟨k+1,by omega,by go_num,HO2.out,HP2.out,HB2.out⟩
           case measure=>simp[intOf];omega
         · have g4:(op==4)=false:=by simp[q4]
           have hrn:rnF L ⟨op,sort,name,num,kids⟩=⟨op,sort,name,num,kids⟩:=by
            unfold rnF;rw[if_neg q4]
           rw[hrn] at HST
           have HO2:Hid (OutB (wr.alloc (.cells #[.int .i64 op,.int .i64 sort,.string name,.string num,.int .i64 kids] 51)) O ((ts.take (k+1)).map (rnF L)++ts.drop (k+1))):=hid (by
            rw[HST.out,bA HX.out];exact HOA.out)
           clear hlk hrn HST HX HO HP HB HOA hjf
           go_wp2_with (at_lookup;go_loud (refine wpList_look_hit rfl 9 9 60 _ _ rfl underlying9 underlying60 M _ rfl HPA.out name rfl jf (.string s) HF.out ?_))
           go_roundw
           case rel=>exact ⟨k+1,by omega,by go_num,HO2.out,HPA.out,HBA.out⟩
           case measure=>simp[intOf];omega
     · have hlti:¬(k:Int)<(m:Int):=by omega
       have HOL:Hid (OutB wr O (ts.map (rnF L))):=hid (by
        have:=HO.out
        rwa [List.take_of_length_le (by rw[HM.out];omega),List.drop_of_length_le (by rw[HM.out];omega),List.append_nil] at this)
       have hnu:=newUses_any wr;clear HO HP hlt hk
       go_wp2_with fail
       refine hnu.mono ?_;rintro e w6 ⟨rfl,hu,hb6⟩;have HO6:=hid (HOL.out.far hb6);have HB6:=hid (HB.out.trans (hb6.mono HB.out.size));have hOw:=HOL.out.lt
       have hut:=usesTerm_any wr.heap.size [] O cO (ts.map (rnF L)) w6 hu (by rw[List.length_map,HM.out];omega) HO6.out.lt (by omega) HO6.out.nodes (fun x hx=>by
        obtain ⟨y,hy,rfl⟩:=List.mem_map.1 hx;have:=HNO.out y hy;unfold rnF
        split
        · split <;> simpa using this
        · exact this)
       rw[HUS.out,List.length_map,HM.out] at hut;have HSB:=hid HB.out.size;clear hnu hu hb6 HOL HB
       go_wp2_with fail
       refine hut.mono ?_;rintro e w7 ⟨rfl,-,hgr⟩;have hbk:=hgr.block O HO6.out.lt (fun e=>by have:=Option.some.inj e;omega);have HN7:Hid (NodesAt w7 O (ts.map (rnF L))):=hid fun i x hx j hj=>(World.cell?_of_block (w:=w6) (a:=⟨O,i*5+j,none⟩) hbk).trans (HO6.out.nodes i x hx j hj)
       have HL7:=hid (Nat.lt_of_lt_of_le HO6.out.lt hgr.size);have HB7:=hid (HB6.out.grown hgr HB6.out.size (fun j e=>by cases e;exact HSB.out));clear hut hgr hbk HO6 HB6
       go_wp2
       go_ret2
       exact ⟨O,cO,rfl,HN7.out,HL7.out,HB7.out⟩
end Go.Proofs.YthefknoicelhaaaGreatDoor.Se

import Derived.Test.YtpkfnnkbfphfbaaGreatDoorHUK
set_option maxRecDepth 100000
set_option maxHeartbeats 40000000
namespace Go.Proofs.YtpkfnnkbfphfbaaGreatDoor.Se
open Go.RowKit Nmx Go.Proofs.Tryz
def vdF (na:List Nat→List Int→Bool) (ts:List Nd):Bool:=match shp ts with | none=>false | some (E,S)=>na E S
def soF (na:List Nat→List Int→Bool) (ts:List Nd):Int:=match shp ts with | none=>0 | some (E,S)=>if na E S then S.getD 0 0 else 0
theorem A1 {na:List Nat→List Int→Bool} {ts:List Nd} (h:vdF na ts=true):shp ts≠none:=fun e=>by
 unfold vdF at h;rw[e] at h;cases h
theorem iR {na:List Nat→List Int→Bool} {ao:Option Addr} {n cap:Nat} {ts:List Nd} {w:World}
    (h:Calls prog 75 #[.slice ao n cap] w (ChkPost na ts w)):
    Calls prog 49 #[.slice ao n cap] w fun e w'=>e=.returned (.bool (vdF na ts))∧Below w.heap.size w w':=by
 go_enter func49,ntmps49
 go_wp2_with fail
 refine h.mono ?_;rintro e w2 ⟨hb2,a1,a2,n1,c1,n2,c2,b,rfl,hm⟩;have HB:=Lib.hid hb2
 have HM:Hid (b=vdF na ts):=Lib.hid (by
  unfold vdF;cases hs:shp ts with
  | none=>rw[hs] at hm;exact hm
  | some x=>obtain ⟨E,S⟩:=x;rw[hs] at hm;exact hm.1)
 clear hb2 hm h
 go_wp2
 go_ret
 exact ⟨by rw[←HM.out];rfl,HB.out.alloc HB.out.size _⟩
end Go.Proofs.YtpkfnnkbfphfbaaGreatDoor.Se
namespace Go.Proofs.YtpkfnnkbfphfbaaGreatDoor
open Go.RowKit Nmx
open Go.MapKept
def MapS (w:World) (B:Nat) (kvs:List (ByteArray×Value)):Prop:=∃es clock,w.heap[B]? =some (.map es clock)∧es.toList.map (fun e=>(e.key,e.val))=kvs.map (fun p=>(Value.string p.1,p.2))
def eP (k:ByteArray):List (ByteArray×Value)→Nat→Option (Nat×Value)
 | [],_=>none
 | p::l,i=>if k=p.1 then some (i,p.2) else eP k l (i+1)
theorem eQ (k:ByteArray):∀(l:List MapEntry) (kvs:List (ByteArray×Value)) (i:Nat),l.map (fun e=>(e.key,e.val))=kvs.map (fun p=>(Value.string p.1,p.2))→Instr.findNow .string (.string k) l i=some (eP k kvs i)
 | [],[],_,_=>rfl
 | [],_::_,_,h=>by cases h
 | _::_,[],_,h=>by cases h
 | e::l,p::kvs,i,h=>by
   injection h with h1 h2;injection h1 with h3 h4;unfold Instr.findNow eP;rw[h3,h4];rw[show Instr.sameNow .string (.string k) (.string p.1)=some (k==p.1) from rfl]
   by_cases hk:k=p.1
   · rw[aF hk,(bytes_beq k p.1).2 hk]
   · rw[aB hk,show (k==p.1)=false from Bool.eq_false_iff.2 fun h=>hk ((bytes_beq k p.1).1 h)];exact eQ k l kvs (i+1) h2
theorem MapS.far {w w':World} {B:Nat} {kvs:List (ByteArray×Value)} (h:MapS w B kvs) (hb:Below w.heap.size w w'):MapS w' B kvs:=
 let ⟨es,c,h1,h2⟩:=h;⟨es,c,(hb.block _ (ar h1)).trans h1,h2⟩
theorem MapS.but {w w':World} {B:Nat} {kvs:List (ByteArray×Value)} (h:MapS w B kvs) (ho:w'.heap[B]? =w.heap[B]?):MapS w' B kvs:=
 let ⟨es,c,h1,h2⟩:=h;⟨es,c,ho.trans h1,h2⟩
theorem MapS.lt {w:World} {B:Nat} {kvs:List (ByteArray×Value)} (h:MapS w B kvs):B<w.heap.size:=
 let ⟨_,_,h1,_⟩:=h;ar h1
theorem MapS.made (w:World):MapS (w.alloc (.map #[] 0)) w.heap.size []:=⟨#[],0,aq w _,rfl⟩
section
variable {P:Program} {k e t:TypeId} (hk:P.underlying k=some .string) (ht:P.underlying t=some (.map k e)) {w:World} {B:Nat} {kvs:List (ByteArray×Value)} (h:MapS w B kvs)
include hk ht h
theorem pQ {s:ByteArray} {j:Nat} {v:Value} (hf:eP s kvs 0=some (j,v)):(Instr.lookup t (.map (some B)) (.string s) true).run P w=.ok (.tuple #[v,.bool true]) w:=by
 obtain ⟨es,c,h1,h2⟩:=h;have hn:=eQ s es.toList kvs 0 h2;rw[hf] at hn
 simp[Instr.lookup,run_underlying ht,Go.run_getObj_map _ _ _ _ h1,run_checkKey hk (k:=.string s) trivial,run_findKey hk hn,Result.andThen]
theorem nG {s:ByteArray} {z:Value} (hf:eP s kvs 0=none) (hz:(zeroValue e).run P w=.ok z w):(Instr.lookup t (.map (some B)) (.string s) true).run P w=.ok (.tuple #[z,.bool false]) w:=by
 obtain ⟨es,c,h1,h2⟩:=h;have hn:=eQ s es.toList kvs 0 h2;rw[hf] at hn
 simp[Instr.lookup,run_underlying ht,Go.run_getObj_map _ _ _ _ h1,run_checkKey hk (k:=.string s) trivial,run_findKey hk hn,Result.andThen,hz]
theorem pR {s:ByteArray} {v:Value} (hf:eP s kvs 0=none):∃w',(Instr.mapUpdate t (.map (some B)) (.string s) v).run P w=.ok () w'∧MapS w' B (kvs++[(s,v)])∧w.grownBy w' (some B):=by
 obtain ⟨es,c,h1,h2⟩:=h;have hn:=eQ s es.toList kvs 0 h2;rw[hf] at hn;obtain ⟨s1,s2⟩:=Go.MapKept.heap_set (o':=.map (es.push { key:=.string s,val:=v,born:=c }) (c+1)) h1;refine ⟨{ w with heap:=w.heap.setIfInBounds B (.map (es.push { key:=.string s,val:=v,born:=c }) (c+1)) },by simp[Instr.mapUpdate,run_underlying ht,Go.run_getObj_map _ _ _ _ h1,run_checkKey hk (k:=.string s) trivial,run_findKey hk hn,run_setObj_map _ h1,Result.andThen],⟨_,_,s1,?_⟩,⟨rfl,rfl,rfl,by simp,fun g hg hne=>s2 g fun e=>hne (by rw[e])⟩⟩
 simp[h2]
end
section
variable {P:Program} {w:World} {ops:Array Oper} {rest:List Oper} {o:Oper} {a:Act} {Q:Exit→Act→World→Prop} (hg:o.guard=none) (k e t:TypeId)
include hg
theorem eU (x i:Operand) (hop:o.op=Op.lookup t x i true) (hk:P.underlying k=some .string) (ht:P.underlying t=some (.map k e)) (B:Nat) (kvs:List (ByteArray×Value)) (hm:a.eval x=.map (some B)) (h:MapS w B kvs) (s:ByteArray) (hs:a.eval i=.string s) (j:Nat) (v:Value) (hf:eP s kvs 0=some (j,v))
    (hK:wpList P ops Q rest (a.put o.dst (.tuple #[v,.bool true])) w):wpList P ops Q (o::rest) a w:=by
 refine wpList_plain hg fun K' hK'=>?_
 have hrun:=pQ hk ht h hf;unfold Oper.wp
 simp[execOp,hop,hm,hs,hrun,Result.andThen]
 exact hK' _ _ hK
theorem gE (x i:Operand) (hop:o.op=Op.lookup t x i true) (hk:P.underlying k=some .string) (ht:P.underlying t=some (.map k e)) (B:Nat) (kvs:List (ByteArray×Value)) (hm:a.eval x=.map (some B)) (h:MapS w B kvs) (s:ByteArray) (hs:a.eval i=.string s) (z:Value) (hf:eP s kvs 0=none) (hz:(zeroValue e).run P w=.ok z w)
    (hK:wpList P ops Q rest (a.put o.dst (.tuple #[z,.bool false])) w):wpList P ops Q (o::rest) a w:=by
 refine wpList_plain hg fun K' hK'=>?_
 have hrun:=nG hk ht h hf hz;unfold Oper.wp
 simp[execOp,hop,hm,hs,hrun,Result.andThen]
 exact hK' _ _ hK
end
def nH (s:ByteArray) (u:Value):List (ByteArray×Value)→List (ByteArray×Value)
 | []=>[(s,u)]
 | p::l=>if s=p.1 then (s,u)::l else p::nH s u l
theorem wf {k:ByteArray} (v:Value):∀{l:List (ByteArray×Value)} {i:Nat},eP k l i=none→nH k v l=l++[(k,v)]:=by
 intro l
 induction l with
 | nil=>intro i _;rfl
 | cons p l ih=>
   intro i h;unfold eP at h;unfold nH
   by_cases hk:k=p.1
   · rw[aF hk] at h;cases h
   · rw[aB hk] at h ⊢;rw[ih h];rfl
theorem wg {k:ByteArray} (v:Value):∀{l:List (ByteArray×Value)} {i j:Nat} {u:Value},eP k l i=some (j,u)→i≤j∧l[j-i]? =some (k,u)∧nH k v l=l.set (j-i) (k,v):=by
 intro l
 induction l with
 | nil=>intro i j u h;cases h
 | cons p l ih=>
   intro i j u h;unfold eP at h;unfold nH
   by_cases hk:k=p.1
   · rw[aF hk] at h ⊢;obtain ⟨rfl,rfl⟩:=Prod.mk.inj (aI h);refine ⟨aj _,?_,?_⟩
     · rw[Nat.sub_self,hk];rfl
     · rw[Nat.sub_self];rfl
   · rw[aB hk] at h ⊢;obtain ⟨h1,h2,h3⟩:=ih h;obtain ⟨d,hd⟩:∃d,j-i=d+1:=⟨j-i-1,by omega⟩
     have hd':j-(i+1)=d:=by omega
     rw[hd'] at h2 h3;rw[hd,h3];exact ⟨by omega,h2,rfl⟩
theorem rO {P:Program} {k e t:TypeId} (hk:P.underlying k=some .string) (ht:P.underlying t=some (.map k e)) {w:World} {B:Nat} {kvs:List (ByteArray×Value)} (h:MapS w B kvs) (s:ByteArray) (v:Value):
    ∃w',(Instr.mapUpdate t (.map (some B)) (.string s) v).run P w=.ok () w'∧MapS w' B (nH s v kvs)∧w.grownBy w' (some B):=by
 cases hf:eP s kvs 0 with
 | none=>rw[wf v hf];exact pR hk ht h hf
 | some x=>
   obtain ⟨j,u⟩:=x;obtain ⟨-,g2,g3⟩:=wg v hf;rw[Nat.sub_zero] at g2 g3;rw[g3];obtain ⟨es,c,h1,h2⟩:=h;have hn:=eQ s es.toList kvs 0 h2;rw[hf] at hn;have hj:(es.toList.map (fun e=>(e.key,e.val)))[j]? =some (.string s,u):=by rw[h2,List.getElem?_map,g2];rfl
   rw[List.getElem?_map] at hj;obtain ⟨x,hx,hxe⟩:=Option.map_eq_some_iff.1 hj;have hkey:x.key=.string s:=congrArg Prod.fst hxe
   have hgd:((es[j]?).map (·.key)).getD (.string s)=.string s:=by
    rw[←Array.getElem?_toList,hx];exact hkey
   have hkt:(Instr.keyThatStays (.string s) (.string s)).run P w=.ok (.string s) w:=by
    unfold Instr.keyThatStays;rw[show Instr.sameBits 10000 (.string s) (.string s)=(s==s) from rfl,(bytes_beq s s).2 rfl];rfl
   obtain ⟨s1,s2⟩:=Go.MapKept.heap_set (o':=.map (es.modify j fun e=>{ e with key:=.string s,val:=v }) c) h1;refine ⟨{ w with heap:=w.heap.setIfInBounds B (.map (es.modify j fun e=>{ e with key:=.string s,val:=v }) c) },by simp[Instr.mapUpdate,run_underlying ht,Go.run_getObj_map _ _ _ _ h1,run_checkKey hk (k:=.string s) trivial,run_findKey hk hn,hgd,hkt,run_setObj_map _ h1,Result.andThen],⟨_,_,s1,?_⟩,⟨rfl,rfl,rfl,by simp,fun g hg hne=>s2 g fun e=>hne (by rw[e])⟩⟩;rw[Array.toList_modify,List.map_set,←h2];apply List.ext_getElem?;intro n;rw[List.getElem?_map,List.getElem?_modify,List.getElem?_set,List.getElem?_map]
   by_cases hnj:j=n
   · subst hnj;obtain ⟨hl,_⟩:=List.getElem?_eq_some_iff.1 hx;have hl2:j<es.size:=by simpa using hl
     simp[hl2]
   · simp[hnj]
theorem iS {P:Program} {w:World} {ops:Array Oper} {rest:List Oper} {o:Oper} {a:Act} {Q:Exit→Act→World→Prop} (hg:o.guard=none) (k e t:TypeId)
    (m x v:Operand) (hop:o.op=Op.mapUpdate t m x v) (hk:P.underlying k=some .string) (ht:P.underlying t=some (.map k e)) (B:Nat) (kvs:List (ByteArray×Value)) (hm:a.eval m=.map (some B)) (h:MapS w B kvs) (s:ByteArray) (hs:a.eval x=.string s) (u:Value) (hu:a.eval v=u)
    (hK:∀w',MapS w' B (nH s u kvs)→w.grownBy w' (some B)→wpList P ops Q rest (a.put o.dst undef) w'):wpList P ops Q (o::rest) a w:=by
 refine wpList_plain hg fun K' hK'=>?_
 obtain ⟨w',hrun,r1,r2⟩:=rO hk ht h s u;unfold Oper.wp
 simp[execOp,hop,hm,hs,hu,hrun,Result.andThen]
 exact hK' _ _ (hK w' r1 r2)
end Go.Proofs.YtpkfnnkbfphfbaaGreatDoor
namespace Go.Proofs.YtpkfnnkbfphfbaaGreatDoor.Se
open Go.RowKit Nmx
def cp {β:Type} (k:ByteArray):List (ByteArray×β)→Option β
 | []=>none
 | p::l=>if k=p.1 then some p.2 else cp k l
def mX {β:Type} (k:ByteArray) (v:β):List (ByteArray×β)→List (ByteArray×β)
 | []=>[(k,v)]
 | p::l=>if k=p.1 then (k,v)::l else p::mX k v l
def asI (V:List (ByteArray×Int)):List (ByteArray×Value):=V.map fun p=>(p.1,Value.int .i64 p.2)
theorem mY {k:ByteArray}:∀{V:List (ByteArray×Int)} (i:Nat),cp k V=none→eP k (asI V) i=none:=by
 intro V
 induction V with
 | nil=>intro i _;rfl
 | cons p V ih=>
   intro i h;unfold cp at h;show (if k=p.1 then some (i,Value.int .i64 p.2) else eP k (asI V) (i+1))=none
   by_cases hk:k=p.1
   · rw[aF hk] at h;cases h
   · rw[aB hk] at h ⊢;exact ih _ h
theorem mZ {k:ByteArray} {v:Int}:∀{V:List (ByteArray×Int)} (i:Nat),cp k V=some v→∃j,eP k (asI V) i=some (j,.int .i64 v):=by
 intro V
 induction V with
 | nil=>intro i h;cases h
 | cons p V ih=>
   intro i h;unfold cp at h;show ∃j,(if k=p.1 then some (i,Value.int .i64 p.2) else eP k (asI V) (i+1))=some (j,.int .i64 v)
   by_cases hk:k=p.1
   · rw[aF hk] at h ⊢;exact ⟨i,by rw[aI h]⟩
   · rw[aB hk] at h ⊢;exact ih _ h
theorem BW (k:ByteArray) (v:Int):∀V:List (ByteArray×Int),nH k (.int .i64 v) (asI V)=asI (mX k v V):=by
 intro V
 induction V with
 | nil=>rfl
 | cons p V ih=>
   show (if k=p.1 then (k,Value.int .i64 v)::asI V else (p.1,Value.int .i64 p.2)::nH k (.int .i64 v) (asI V))=asI (if k=p.1 then (k,v)::V else p::mX k v V)
   by_cases hk:k=p.1
   · rw[aF hk,aF hk];rfl
   · rw[aB hk,aB hk,ih];rfl
def RowV (w:World) (v:Value) (l:List Int):Prop:=∃g cap,v=.slice (some ⟨g,0,none⟩) l.length cap∧RowI w (some ⟨g,0,none⟩) g l∧0<l.length
theorem RowV.far {w w':World} {v:Value} {l:List Int} (h:RowV w v l) (hb:Below w.heap.size w w'):RowV w' v l:=
 let ⟨g,c,h1,h2,h3⟩:=h;⟨g,c,h1,h2.far hb,h3⟩
theorem RowV.grown {w w':World} {v:Value} {l:List Int} {B:Nat} {kvs:List (ByteArray×Value)} (h:RowV w v l) (hm:MapS w B kvs) (hg:w.grownBy w' (some B)):RowV w' v l:=by
 obtain ⟨g,c,h1,h2,h3⟩:=h
 have hne:some g≠some B:=by
  intro e;cases e
  obtain ⟨es,cl,hh,-⟩:=hm;have:=h2.cell 0 h3
  simp[World.cell?,hh] at this
 have hcell:∀t,w'.cell? ⟨g,t,none⟩=w.cell? ⟨g,t,none⟩:=fun t=>World.cell?_of_block (hg.block g h2.lt hne)
 exact ⟨g,c,h1,⟨h2.at0,aC h2.lt hg.size,h2.few,fun t ht=>(hcell t).trans (h2.cell t ht)⟩,h3⟩
def FRel (w:World):List (ByteArray×Value)→List (ByteArray×List Int)→Prop
 | [],[]=>True
 | p::k,q::f=>p.1=q.1∧RowV w p.2 q.2∧FRel w k f
 | _,_=>False
theorem FRel.mono {w w':World} (hm:∀v l,RowV w v l→RowV w' v l):∀{k:List (ByteArray×Value)} {f:List (ByteArray×List Int)},FRel w k f→FRel w' k f
 | [],[],_=>trivial
 | _::_,_::_,h=>⟨h.1,hm _ _ h.2.1,FRel.mono hm h.2.2⟩
 | [],_::_,h=>h.elim
 | _::_,[],h=>h.elim
def fK (E:List Nat) (S:List Int):List Nd→Nat→List (ByteArray×Int)→List (ByteArray×List Int)→Option (List (ByteArray×Int)×List (ByteArray×List Int))
 | [],_,V,F=>some (V,F)
 | x::ts,i,V,F=>
   if x.op=4 then (if (cp x.name V).all (·==x.sort) then fK E S ts (i+1) (mX x.name x.sort V) F else none)
   else if x.op=5 then (if (cp x.name F).all (·==co E S i++[x.sort]) then fK E S ts (i+1) V (mX x.name (co E S i++[x.sort]) F) else none)
   else fK E S ts (i+1) V F
def naF (ts:List Nd) (E:List Nat) (S:List Int):Bool:=
 match fK E S ts 0 [] [] with
 | none=>false
 | some (V,_)=>ts.all fun x=>!(x.op==5 && (cp x.name V).isSome)
end Go.Proofs.YtpkfnnkbfphfbaaGreatDoor.Se

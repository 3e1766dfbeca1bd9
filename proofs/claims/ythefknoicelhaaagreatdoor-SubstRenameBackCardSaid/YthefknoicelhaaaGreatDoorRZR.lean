import Derived.Test.YthefknoicelhaaaGreatDoorRZP
import Derived.Test.YthefknoicelhaaaGreatDoorFZM
set_option maxRecDepth 100000
set_option maxHeartbeats 40000000
open Go.Lib (hid)
namespace Go.Proofs.YthefknoicelhaaaGreatDoor.Se
open Go.RowKit Nmx
structure OrdC {α:Type} (f:α→α→Int):Prop where
 zero:∀a b,f a b=0→a=b
 refl:∀a,f a a=0
 anti:∀a b,f a b= -f b a
 tr:∀a b c,f a b≤0→f b c≤0→f a c≤0
theorem dE:OrdC cmpI:=by
 refine ⟨fun a b h=>?_,fun a=>?_,fun a b=>?_,fun a b c h1 h2=>?_⟩
 · unfold cmpI at h;split at h;cases h;split at h;cases h;omega
 · unfold cmpI;rw[if_neg (by omega),if_neg (by omega)]
 · unfold cmpI;repeat' split
   all_goals omega
 · unfold cmpI at *;repeat' split
   all_goals (repeat' split at h1)
   all_goals (repeat' split at h2)
   all_goals omega
theorem dd:∀a b:List UInt8,Lib.compareBytes a b=0→a=b:=by
 intro a
 induction a with
 | nil=>intro b h;cases b;rfl;cases h
 | cons x a ih=>
   intro b h;cases b with
   | nil=>cases h
   | cons y b=>
     have h':(if x<y then (-1:Int) else if y<x then 1 else Lib.compareBytes a b)=0:=h
     split at h';cases h';split at h';cases h'
     rename_i h1 h2
     rw[UInt8.le_antisymm (UInt8.not_lt.1 h2) (UInt8.not_lt.1 h1),ih b h']
theorem de:∀a:List UInt8,Lib.compareBytes a a=0:=by
 intro a
 induction a with
 | nil=>rfl
 | cons x a ih=>
   show (if x<x then (-1:Int) else if x<x then 1 else Lib.compareBytes a a)=0;rw[if_neg (UInt8.lt_irrefl x),if_neg (UInt8.lt_irrefl x),ih]
theorem df:∀a b:List UInt8,Lib.compareBytes a b= -Lib.compareBytes b a:=by
 intro a
 induction a with
 | nil=>intro b;cases b <;> rfl
 | cons x a ih=>
   intro b;cases b with
   | nil=>rfl
   | cons y b=>
     show (if x<y then (-1:Int) else if y<x then 1 else Lib.compareBytes a b)= -(if y<x then (-1:Int) else if x<y then 1 else Lib.compareBytes b a)
     by_cases h1:x<y
     · rw[if_pos h1,if_neg (UInt8.lt_asymm h1),if_pos h1]
     · by_cases h2:y<x
       · rw[if_neg h1,if_pos h2,if_pos h2];rfl
       · rw[if_neg h1,if_neg h2,if_neg h2,if_neg h1,ih b]
theorem dP:∀a b c:List UInt8,Lib.compareBytes a b≤0→Lib.compareBytes b c≤0→Lib.compareBytes a c≤0:=by
 intro a
 induction a with
 | nil=>intro b c _ _;cases c;exact Int.le_refl 0;show (-1:Int)≤0;decide
 | cons x a ih=>
   intro b c h1 h2;cases b with
   | nil=>exact absurd h1 (by show ¬(1:Int)≤0;decide)
   | cons y b=>
     cases c with
     | nil=>exact absurd h2 (by show ¬(1:Int)≤0;decide)
     | cons z c=>
       have h1':(if x<y then (-1:Int) else if y<x then 1 else Lib.compareBytes a b)≤0:=h1;have h2':(if y<z then (-1:Int) else if z<y then 1 else Lib.compareBytes b c)≤0:=h2;show (if x<z then (-1:Int) else if z<x then 1 else Lib.compareBytes a c)≤0
       by_cases xy:x<y
       · by_cases yz:y<z
         · rw[if_pos (UInt8.lt_trans xy yz)];decide
         · rw[if_neg yz] at h2'
           by_cases zy:z<y
           · rw[if_pos zy] at h2';exact absurd h2' (by decide)
           · rw[UInt8.le_antisymm (UInt8.not_lt.1 zy) (UInt8.not_lt.1 yz)] at xy;rw[if_pos xy];decide
       · rw[if_neg xy] at h1'
         by_cases yx:y<x
         · rw[if_pos yx] at h1';exact absurd h1' (by decide)
         · rw[if_neg yx] at h1';have e:=UInt8.le_antisymm (UInt8.not_lt.1 yx) (UInt8.not_lt.1 xy);subst e
           by_cases yz:x<z
           · rw[if_pos yz];decide
           · rw[if_neg yz] at h2' ⊢
             by_cases zy:z<x
             · rw[if_pos zy] at h2';exact absurd h2' (by decide)
             · rw[if_neg zy] at h2' ⊢;exact ih b c h1' h2'
theorem aB (a b:ByteArray):cmpS a b=Lib.compareBytes a.toList b.toList:=by rw[bM];rfl
theorem dQ:OrdC cmpS:=by
 refine ⟨fun a b h=>?_,fun a=>?_,fun a b=>?_,fun a b c h1 h2=>?_⟩
 · rw[aB] at h;exact (bytes_of (dd _ _ h)).trans (bytes_of rfl).symm
 · rw[aB];exact de _
 · rw[aB,aB];exact df _ _
 · rw[aB] at *;exact dP _ _ _ h1 h2
theorem aM {α β:Type} {f:α→α→Int} {h:β→β→Int} (hf:OrdC f) (hh:OrdC h):OrdC (fun (p q:α×β)=>if f p.1 q.1=0 then h p.2 q.2 else f p.1 q.1):=by
 refine ⟨fun p q e=>?_,fun p=>?_,fun p q=>?_,fun p q r h1 h2=>?_⟩
 · split at e
   · rename_i e1;exact Prod.ext (hf.zero _ _ e1) (hh.zero _ _ e)
   · rename_i e1;exact absurd e e1
 · simp only[hf.refl,if_true];exact hh.refl _
 · have ha:=hf.anti p.1 q.1
   by_cases e:f p.1 q.1=0
   · rw[if_pos e,if_pos (by omega)];exact hh.anti _ _
   · rw[if_neg e,if_neg (by omega)];exact ha
 · by_cases e1:f p.1 q.1=0
   · rw[if_pos e1] at h1;have:=hf.zero _ _ e1;rw[this]
     by_cases e2:f q.1 r.1=0
     · rw[if_pos e2] at h2 ⊢;exact hh.tr _ _ _ h1 h2
     · rw[if_neg e2] at h2 ⊢;exact h2
   · rw[if_neg e1] at h1
     by_cases e2:f q.1 r.1=0
     · have:=hf.zero _ _ e2;rw[←this,if_neg e1];exact h1
     · rw[if_neg e2] at h2;have ht:=hf.tr _ _ _ h1 h2
       by_cases e3:f p.1 r.1=0
       · have:=hf.zero _ _ e3;rw[←this] at h2;have:=hf.anti p.1 q.1
         omega
       · rw[if_neg e3];exact ht
theorem dh {α β:Type} {f:β→β→Int} (g:α→β) (hg:∀a b,g a=g b→a=b) (hf:OrdC f):OrdC (fun a b=>f (g a) (g b)):=
 ⟨fun _ _ h=>hg _ _ (hf.zero _ _ h),fun _=>hf.refl _,fun _ _=>hf.anti _ _,fun _ _ _ h1 h2=>hf.tr _ _ _ h1 h2⟩
theorem bC:OrdC ndCmp:=by
 have h:=dh (fun x:Nd=>(x.op,x.sort,x.name,x.num,x.kids)) (fun ⟨_,_,_,_,_⟩ ⟨_,_,_,_,_⟩ e=>by
  simp only[Prod.mk.injEq] at e;obtain ⟨rfl,rfl,rfl,rfl,rfl⟩:=e;rfl) (aM dE (aM dE (aM dQ (aM dQ dE))))
 have e:ndCmp=fun a b:Nd=>if cmpI a.op b.op=0 then (if cmpI a.sort b.sort=0 then (if cmpS a.name b.name=0 then (if cmpS a.num b.num=0 then cmpI a.kids b.kids else cmpS a.num b.num) else cmpS a.name b.name) else cmpI a.sort b.sort) else cmpI a.op b.op:=by
  funext a b
  show firstN [_,_,_,_,_]=_;simp only[firstN]
  repeat' split
  all_goals first | rfl | simp_all
 rw[e];exact h
theorem dZ:OrdC tsCmp:=by
 refine ⟨?_,?_,?_,?_⟩
 · intro a
   induction a with
   | nil=>intro b h;cases b;rfl;cases h
   | cons x a ih=>
     intro b h;cases b with
     | nil=>cases h
     | cons y b=>
       have h':(if ndCmp x y=0 then tsCmp a b else ndCmp x y)=0:=h
       split at h'
       · rename_i e;rw[bC.zero _ _ e,ih b h']
       · rename_i e;exact absurd h' e
 · intro a
   induction a with
   | nil=>rfl
   | cons x a ih=>show (if ndCmp x x=0 then tsCmp a a else _)=0;rw[if_pos (bC.refl x),ih]
 · intro a
   induction a with
   | nil=>intro b;cases b <;> rfl
   | cons x a ih=>
     intro b;cases b with
     | nil=>rfl
     | cons y b=>
       show (if ndCmp x y=0 then tsCmp a b else ndCmp x y)= -(if ndCmp y x=0 then tsCmp b a else ndCmp y x);have ha:=bC.anti x y
       by_cases e:ndCmp x y=0
       · rw[if_pos e,if_pos (by omega),ih b]
       · rw[if_neg e,if_neg (by omega)];exact ha
 · intro a
   induction a with
   | nil=>intro b c _ _;cases c;exact Int.le_refl 0;show (-1:Int)≤0;decide
   | cons x a ih=>
     intro b c h1 h2;cases b with
     | nil=>exact absurd h1 (by show ¬(1:Int)≤0;decide)
     | cons y b=>
       cases c with
       | nil=>exact absurd h2 (by show ¬(1:Int)≤0;decide)
       | cons z c=>
         have h1':(if ndCmp x y=0 then tsCmp a b else ndCmp x y)≤0:=h1;have h2':(if ndCmp y z=0 then tsCmp b c else ndCmp y z)≤0:=h2;show (if ndCmp x z=0 then tsCmp a c else ndCmp x z)≤0
         by_cases e1:ndCmp x y=0
         · rw[if_pos e1] at h1';rw[bC.zero _ _ e1]
           by_cases e2:ndCmp y z=0
           · rw[if_pos e2] at h2' ⊢;exact ih b c h1' h2'
           · rw[if_neg e2] at h2' ⊢;exact h2'
         · rw[if_neg e1] at h1'
           by_cases e2:ndCmp y z=0
           · rw[←bC.zero _ _ e2,if_neg e1];exact h1'
           · rw[if_neg e2] at h2';have ht:=bC.tr _ _ _ h1' h2'
             by_cases e3:ndCmp x z=0
             · have e4:=bC.zero _ _ e3;rw[←e4] at h2';have:=bC.anti x y
               omega
             · rw[if_neg e3];exact ht
end Go.Proofs.YthefknoicelhaaaGreatDoor.Se
namespace Go.Proofs.YthefknoicelhaaaGreatDoor.Se
open Go.RowKit Nmx Go.Proofs.Tryz
open Go.MapKept
theorem bZ (L:List (ByteArray×ByteArray)) (x:Nd):(rnF L x).op=x.op∧(rnF L x).sort=x.sort∧(rnF L x).num=x.num∧(rnF L x).kids=x.kids:=by
 unfold rnF
 split
 · split <;> exact ⟨rfl,rfl,rfl,rfl⟩
 · exact ⟨rfl,rfl,rfl,rfl⟩
theorem dR {L:List (ByteArray×ByteArray)} {x:Nd} (h:fpF x=true) (hn:x.op=4→nameF (rnF L x).name.toList=true):fpF (rnF L x)=true:=by
 by_cases q:x.op=4
 · obtain ⟨op,sort,name,num,kids⟩:=x;simp only at q;subst q;have hn:=hn rfl;unfold rnF at hn ⊢;simp only[if_true] at hn ⊢
   split
   · rename_i s hs
     rw[hs] at hn;simp only at hn;unfold fpF fdF at h ⊢;simp only[Bool.and_eq_true] at h ⊢;refine ⟨h.1,h.2.1,h.2.2.1,h.2.2.2.1,?_⟩;have h5:=h.2.2.2.2
     simp_all
   · exact h
 · unfold rnF;rw[if_neg q];exact h
theorem WE.ren {L:List (ByteArray×ByteArray)} {p d:Nat} {ts:List Nd} {ss:List Int} {E:List Nat} {S:List Int} (h:WE p d ts ss E S):(∀x∈ts,x.op=4→nameF (rnF L x).name.toList=true)→WE p d (ts.map (rnF L)) ss E S:=by
 induction h with
 | nil p d=>intro _;exact .nil p d
 | @cons p d x ks rest ss rs s Ek Er Sk Sr hk hn hr ihk ihr=>
   intro ha;have h1:=ihk fun y hy=>ha y (by simp[hy])
   have h2:=ihr fun y hy=>ha y (by simp[hy])
   obtain ⟨o1,o2,o3,o4⟩:=bZ L x
   have hx:NodeOk (rnF L x) (ks.map (rnF L)) ss s:=⟨dR hn.fp (ha x (by simp)),by rw[o4];exact hn.kn,by rw[o1,o2];exact hn.rs,fun q=>by
    have:=hn.mul (by rw[o1] at q;exact q);cases ks with
    | nil=>exact this
    | cons y ks=>show (rnF L y).op=3;rw[(bZ L y).1];exact this⟩
   rw[List.map_cons,List.map_append];have:=WE.cons (p:=p) (d:=d) (x:=rnF L x) (ks:=ks.map (rnF L)) (rest:=rest.map (rnF L)) (ss:=ss) (rs:=rs) (s:=s) (Ek:=Ek) (Er:=Er) (Sk:=Sk) (Sr:=Sr) h1 hx (by rw[List.length_map];exact h2);rwa [List.length_map] at this
theorem bh {V:List (ByteArray×Int)}:∀{ts:List Nd} {U:List (ByteArray×Int)},Nm V ts→(∀k v,lookA k U=some v→lookA k V=some v)→(usF ts true U).1=true
 | [],_,_,_=>rfl
 | x::ts,U,h,hu=>by
   have hx:=h x (by simp);have ht:Nm V ts:=fun y hy=>h y (by simp[hy])
   unfold usF
   by_cases q:x.op=4
   · have hl:=hx.2 q
     have h1:unF x U=true:=by
      unfold unF;rw[if_pos q];unfold uvF;cases hk:lookA x.name U with
      | none=>rfl
      | some v=>
        have:=hu _ _ hk;rw[hl] at this;rw[Option.some.inj this];simp[lookA]
     rw[h1];refine bh ht fun k v hk=>?_
     unfold unV at hk;rw[if_pos q,lookA_put] at hk
     split at hk
     · rename_i e;rw[e,←Option.some.inj hk];exact hl
     · exact hu k v hk
   · have h1:unF x U=true:=if_neg q;rw[h1];refine bh ht fun k v hk=>?_
     unfold unV at hk;rw[if_neg q] at hk;exact hu k v hk
theorem a7 {β:Type} {k:ByteArray} {v:β}:∀{V:List (ByteArray×β)},lookA k V=some v→(k,v)∈V
 | [],h=>by cases h
 | p::V,h=>by
   unfold lookA at h
   split at h
   · rename_i e;rw[e,←Option.some.inj h];simp
   · exact List.mem_cons_of_mem _ (a7 h)
def diq (i:Nat):ByteArray:=⟨#[110,101,119,33]⟩++⟨(decN i).toArray⟩
def bO (i:Nat):ByteArray:=⟨#[110,101,119,33,48+i.toUInt8]⟩
def ax:List (ByteArray×ByteArray):=(vs8.map Prod.fst).zip ((List.range 8).map bO)
def bD:List (ByteArray×ByteArray):=((List.range 8).map bO).zip (vs8.map Prod.fst)
def vsN:List (ByteArray×Int):=((List.range 8).map bO).zip (vs8.map Prod.snd)
theorem dF (i:Nat) (h:i<10):diq i=bO i:=by
 unfold diq bO;rw[decN_small h];apply bytes_of;rw[ByteArray.toList_eq,ByteArray.data_append,Array.toList_append]
 simp[dg]
theorem dG:∀p∈vs8,∃s,lookA p.1 ax=some s∧lookA s vsN=some p.2∧lookA s bD=some p.1∧nameF s.toList=true:=by
 have h:∀p∈vs8,(match lookA p.1 ax with | none=>false | some s=>decide (lookA s vsN=some p.2) && decide (lookA s bD=some p.1) && nameF s.toList)=true:=by decide+kernel
 intro p hp;have:=h p hp;cases hs:lookA p.1 ax with
 | none=>rw[hs] at this;cases this
 | some s=>
   rw[hs] at this;simp only[Bool.and_eq_true,decide_eq_true_eq] at this;exact ⟨s,rfl,this.1.1,this.1.2,this.2⟩
theorem bi {x:Nd} (hx:x.op=4→lookA x.name vs8=some x.sort) (q:x.op=4):∃s,rnF ax x={ x with name:=s }∧lookA s vsN=some x.sort∧lookA s bD=some x.name∧nameF s.toList=true:=by
 obtain ⟨s,h1,h2,h3,h4⟩:=dG _ (a7 (hx q));refine ⟨s,?_,h2,h3,h4⟩;unfold rnF;rw[if_pos q];simp only at h1;rw[h1]
theorem bP {ts:List Nd} (h:Nm vs8 ts):Nm vsN (ts.map (rnF ax)):=fun y hy=>by
 obtain ⟨x,hx,rfl⟩:=List.mem_map.1 hy;have h1:=h x hx;obtain ⟨o1,o2,-,-⟩:=bZ ax x;refine ⟨by rw[o1];exact h1.1,fun q=>?_⟩;rw[o1] at q;obtain ⟨s,e,h2,-,-⟩:=bi h1.2 q;rw[e];exact h2
theorem bE {ts:List Nd} (h:Nm vs8 ts):(ts.map (rnF ax)).map (rnF bD)=ts:=by
 rw[List.map_map]
 conv=>rhs;rw[←List.map_id ts]
 refine List.map_congr_left fun x hx=>?_
 show rnF bD (rnF ax x)=x
 by_cases q:x.op=4
 · obtain ⟨s,e,-,h3,-⟩:=bi (h x hx).2 q;rw[e];unfold rnF;rw[if_pos (by exact q)];simp only[h3]
 · have e:rnF ax x=x:=if_neg q;rw[e];exact if_neg q
theorem cb {ts:List Nd} (h:Nm vs8 ts):∀x∈ts,x.op=4→nameF (rnF ax x).name.toList=true:=fun x hx q=>by
 obtain ⟨s,e,-,-,h4⟩:=bi (h x hx).2 q;rw[e];exact h4
theorem bQ:∀p∈ax,nameF p.1.toList=true∧nameF p.2.toList=true:=by decide+kernel
theorem bR:∀p∈bD,nameF p.1.toList=true∧nameF p.2.toList=true:=by decide+kernel
theorem bS:(ax.map Prod.fst).Nodup:=by decide+kernel
theorem bT:(bD.map Prod.fst).Nodup:=by decide+kernel
theorem dj:∀ts:List Nd,tsCmp ts ts=0:=dZ.refl
theorem b0 {B:Nat} {w:World} {v u:Value} {ts us:List ByteArray} (h1:RowS B w v ts) (h2:RowS B w u us) (hv:ts=[]→v.ownBlock=none) (hu:us=[]→u.ownBlock=none) (hx:∀a b,ts[0]? =some a→us[0]? =some b→a≠b):v.ownBlock=none∨v.ownBlock≠u.ownBlock:=by
 cases hvb:v.ownBlock with
 | none=>exact .inl rfl
 | some g=>
   refine .inr fun e=>?_
   cases ts with
   | nil=>rw[hv rfl] at hvb;cases hvb
   | cons a ts=>
     cases us with
     | nil=>rw[hu rfl] at e;cases e
     | cons b us=>
       have c1:=h1.cells hvb 0 (.string a) rfl;have c2:=h2.cells e.symm 0 (.string b) rfl;rw[c1] at c2;exact hx a b rfl rfl (Value.string.inj (Option.some.inj c2))
def aR (k:Nat):List ByteArray:=(vs8.map Prod.fst).take k
def aS (k:Nat):List ByteArray:=((List.range 8).map bO).take k
theorem cC {k:Nat} (h:k<8):∃p,vs8[k]? =some p∧aR (k+1)=aR k++[p.1]∧(aR k).length=k:=by
 have hl:vs8.length=8:=rfl;refine ⟨vs8[k]'(by omega),List.getElem?_eq_getElem (by omega),?_,?_⟩
 · unfold aR;rw[List.take_succ_eq_append_getElem (by rw[List.length_map];omega),List.getElem_map]
 · unfold aR;rw[List.length_take,List.length_map];omega
theorem cD {k:Nat} (h:k<8):aS (k+1)=aS k++[diq k]∧(aS k).length=k:=by
 refine ⟨?_,?_⟩
 · unfold aS;rw[List.take_succ_eq_append_getElem (by simp;omega),dF k (by omega),List.getElem_map,List.getElem_range]
 · unfold aS;simp;omega
theorem dq (j k:Nat):∀a b,(aR j)[0]? =some a→(aS k)[0]? =some b→a≠b:=by
 intro a b ha hb;unfold aR at ha;unfold aS at hb;rw[List.getElem?_take] at ha hb
 split at ha
 · split at hb
   · have ha':a=⟨#[120]⟩:=(Option.some.inj ha).symm;have hb':b=bO 0:=(Option.some.inj hb).symm;rw[ha',hb'];decide+kernel
   · cases hb
 · cases ha
theorem dH {D Z:Nat} {ts:List Nd} {s:Int} (h:Tm vs8 D Z ts s):WT D (ts.map (rnF ax)) s:=by
 obtain ⟨E,S,hw⟩:=h.wt;exact ⟨E,S,hw.ren (cb h.nm)⟩
theorem cE (al:Option Addr) (ll cl:Nat) (w:World) (hEn:Env w) (h:ArgI w al ll cl):
    Calls prog 4 #[.slice al ll cl] w fun e w'=>e=.returned (.bool true)∧Below w.heap.size w w':=by
 have hch0:=da h;have hn:=cR al ll cl w h;have HEN:=hid fun (W:World) (hW:Below w.heap.size w W)=>hEn.far hW
 have HAW:=hid fun (W:World) (hW:Below w.heap.size w W)=>awake5 W (hEn.far hW)
 obtain ⟨i0,hi,hz0,hz1,hz2⟩:=info_parts infoS;clear hEn
 go_enter func4,ntmps4
 go_wp2_with fail
 refine hn.mono ?_;rintro e w1 ⟨rfl,rfl⟩;have HB0:Hid (∀w',(w.alloc (.cells #[.slice al (min ll 400) cl,.int .i64 0] 57)).grownBy w' (some w.heap.size)→Below w.heap.size w w'):=hid fun w' hg=>cz hg
 generalize hC:w.heap.size=C at *;have HC:=hid hC;obtain ⟨nn,hnn⟩:∃nn,min ll 400=nn:=⟨_,rfl⟩
 rw[hnn] at hch0 HB0 ⊢;generalize w.alloc (.cells #[.slice al nn cl,.int .i64 0] 57)=w1 at *;clear hn h
 go_wp2_with fail
 refine (aa C al nn cl w1 4 (by omega) (by omega) hch0).mono ?_;rintro e w2 ⟨r,hr,rfl,hch2,hg2,-⟩;obtain ⟨y,hy⟩:∃y:Int,1+(r:Int)=y:=⟨_,rfl⟩
 have hy1:1≤y:=by omega
 have hy4:y≤4:=by omega
 go_wp2_with fail
 refine (bv w2).mono ?_;rintro e w3 ⟨rfl,hv3,hl3,hb3⟩;have hgx:GX C al nn cl w2.heap.size w3 w3:=GX.start (hch2.call hb3) hv3 hl3 (by have:=hch2.lt;omega);have HG3:=hid (ad hg2 hb3);clear hv3 hb3 hg2 hch0 hch2 hr
 go_wp2_with fail
 refine ((dD C al nn cl w2.heap.size 8).1 y w3 hy1 hy4 hgx).mono ?_;rintro e w4 ⟨g,d,ts,rfl,k1,k2,k3,kt,kc,kg⟩;have HB4:=hid (HB0.out w4 (grown_trans HG3.out kg));have HN4:=hid k1;have HT:=hid kt;obtain ⟨c,hc⟩:∃c,ts.length+d=c:=⟨_,rfl⟩
 obtain ⟨l,hl⟩:∃l,ts.length=l:=⟨_,rfl⟩
 rw[hc,hl];have HL:=hid hl;have HG4:=hid k2;clear hgx HG3 k1 k2 k3 hy hl hl3 kc kg HB0 hc kt
 go_wp2_with fail
 refine (bv w4).mono ?_;rintro e w5 ⟨rfl,hv5,hl5,hb5⟩;have HV5:=hid hv5;have HB5:=hid (HB4.out.trans (hb5.mono (by rw[←HC.out];exact HB4.out.size)));have HN5:=hid (HN4.out.below hb5 HG4.out);have HG5:=hid (Nat.lt_of_lt_of_le HG4.out hb5.size);have HLV:=hid hl5;generalize w4.heap.size=gv at *;clear hv5 hl5 hb5 HN4 HG4 HB4
 go_wp2
 obtain ⟨G,hG⟩:∃G,w5.heap.size=G:=⟨_,rfl⟩
 have HG:=hid hG;have HCG:Hid (C≤G):=hid (by rw[←HC.out,←hG];exact HB5.out.size);clear hG
 go_loopw [5,6,8] (fun v5 v6 v8 wr=>∃k:Nat,k≤8∧v8=.int .i64 k∧RowS G wr v5 (aR k)∧RowS G wr v6 (aS k)∧(k=0→v5.ownBlock=none∧v6.ownBlock=none)∧Below G w5 wr) (fun _ _ v8 _=>8-(intOf v8).toNat)
 case atStart=>exact ⟨0,by omega,rfl,RowS.nil _ _,RowS.nil _ _,fun _=>⟨rfl,rfl⟩,Below.refl _ _⟩
 case round=>
  obtain ⟨k,hk,rfl,hr5,hr6,h0,hb⟩:=hrel;have HB:=hid hb;have HR5:=hid hr5;have HR6:=hid hr6;have H0:=hid h0;have hCs:G≤wr.heap.size:=by rw[←HG.out];exact hb.size
  have HCS:=hid hCs;have hbw:Below C w wr:=HB5.out.trans (hb.mono HCG.out);have HBW:=hid hbw;clear hb hr5 hr6 h0 hCs hbw
  by_cases hlt:k<8
  · have hlti:(k:Int)<8:=by omega
    obtain ⟨p,hp,hos,hol⟩:=cC hlt;obtain ⟨hns,hnl⟩:=cD hlt;have hcv:=(HB.out.cell (p:=⟨gv,k*2,none⟩) (by rw[←HG.out];exact HLV.out)).trans (HV5.out k p hp).1;have HO:=hid hos;have HNS:=hid hns;have hr5:wr.ownsRow G 9 1 u5 k ((aR k).map Value.string):=by have:=HR5.out;unfold RowS at this;rwa [hol] at this
    obtain ⟨s1,hs1⟩:∃s,p.1=s:=⟨_,rfl⟩
    rw[hs1] at hcv HO;have HR5A:=hid hr5
    have hne1:u6.ownBlock=none∨u6.ownBlock≠u5.ownBlock:=by
     have h:=b0 HR6.out HR5.out (fun e=>(H0.out (by rw[e] at hnl;exact hnl.symm)).2) (fun e=>(H0.out (by rw[e] at hol;exact hol.symm)).1) (fun a b ha hb e=>dq k k b a hb ha e.symm);exact h
    have HR6A:=hid (HR6.out.alloc (.cells #[.string s1] 9));have HNE:=hid hne1;have HOL:=hid hol;have HNL:=hid hnl;clear hp hos hns hr5 hs1 hol hnl hne1
    go_wp2_with (at_builtin;go_must (refine wpList_append_own _ rfl _ _ 22 rfl G 9 i0 (.string ⟨#[]⟩) 1 16 underlying22 hi hz0 hz1 hz2 rfl (by decide) _ k _ rfl (HR5A.out.alloc _) ⟨wr.heap.size,0,none⟩ 1 1 [.string s1] rfl rfl (World.news_of_block (cs:=#[.string s1]) (t:=9) (fr:=(0,0)) (heap_alloc_new wr _)) (by simp[Value.oneCell']) (by unfold maxLen;omega) (by omega) (by have:=HCS.out;simp;omega) ?_))
    intro v' w6 hown hgr _;have HP6:=hid (RowS.of (ts:=aR (k+1)) hown (by rw[HO.out,List.length_append,HOL.out];rfl) (by rw[HO.out,List.map_append];rfl));have HQ6:Hid (RowS G w6 u6 (aS k)):=hid (HR6A.out.kept hgr HNE.out);have HB6:=hid ((HB.out.alloc HCS.out (.cells #[.string s1] 9)).grown hgr (by have:=HCS.out;simp;omega) (fun j e=>(HR5A.out.lt j e).1));have HCS6:Hid (G≤w6.heap.size):=hid (by have:=HCS.out;have:=hgr.size;simp at this;omega);have HBW6:=hid (HB5.out.trans (HB6.out.mono HCG.out));have hit:=refFromInt_any (k:Int) w6 (by omega) (by omega);rw[decI_nat] at hit;clear hown hgr HR5 HR5A HR6 HR6A HB HBW hcv HCS HNE
    go_wp2_with fail
    refine hit.mono ?_;rintro e w7 ⟨rfl,hb7⟩;have hbig:¬9223372036854775807<4+(decN k).length:=by have:=decN_len_le (n:=k) (k:=1) (by omega) (by omega);omega
    have HP7:=hid (HP6.out.far hb7);have hq7:w7.ownsRow G 9 1 u6 k ((aS k).map Value.string):=by have:=HQ6.out.far hb7;unfold RowS at this;rwa [HNL.out] at this
    have HQ7:=hid hq7;have HB7:=hid (HB6.out.trans (hb7.mono HCS6.out));have HCS7:=hid (Nat.le_trans HCS6.out hb7.size);have hne2:v'.ownBlock=none∨v'.ownBlock≠u6.ownBlock:=b0 HP7.out (HQ6.out.far hb7) (fun e=>by rw[HO.out] at e;simp at e) (fun e=>(H0.out (by have:=HNL.out;rw[e] at this;exact this.symm)).2) (dq (k+1) k);have HNE2:=hid hne2;have HNB:Hid ((⟨#[110,101,119,33]⟩:ByteArray)++⟨(decN k).toArray⟩=diq k):=hid rfl;clear hit hb7 hq7 hne2 HP6 HQ6 HB6 HCS6 HBW6
    go_wp2_with (at_builtin;go_must (refine wpList_append_own _ rfl _ _ 22 rfl G 9 i0 (.string ⟨#[]⟩) 1 16 underlying22 hi hz0 hz1 hz2 rfl (by decide) _ k _ rfl (HQ7.out.alloc _) ⟨w7.heap.size,0,none⟩ 1 1 [.string (⟨#[110,101,119,33]⟩++⟨(decN k).toArray⟩)] rfl rfl (World.news_of_block (cs:=#[.string (⟨#[110,101,119,33]⟩++⟨(decN k).toArray⟩)]) (t:=9) (fr:=(0,0)) (heap_alloc_new w7 _)) (by simp[Value.oneCell']) (by unfold maxLen;omega) (by omega) (by have:=HCS7.out;simp;omega) ?_))
    intro v9 w8 hown hgr _;have HQ8:=hid (RowS.of (ts:=aS (k+1)) hown (by rw[HNS.out,List.length_append,HNL.out];rfl) (by rw[HNS.out,List.map_append,←HNB.out];rfl));have HP8:Hid (RowS G w8 v' (aR (k+1))):=hid ((HP7.out.alloc _).kept hgr HNE2.out);have HB8:=hid ((HB7.out.alloc HCS7.out _).grown hgr (by have:=HCS7.out;simp;omega) (fun j e=>(HQ7.out.lt j e).1));clear hown hgr HP7 HQ7 HB7
    go_wp2
    go_roundw
    case rel=>exact ⟨k+1,by omega,by go_num,HP8.out,HQ8.out,fun e=>by omega,HB8.out⟩
    case measure=>simp[intOf];omega
  · have hlti:¬(k:Int)<8:=by omega
    obtain rfl:k=8:=by omega
    obtain ⟨g1,c1,rfl,hs1,-⟩:=HR5.out.strs (by decide);obtain ⟨g2,c2,rfl,hs2,-⟩:=HR6.out.strs (by decide);have hNr:=HN5.out.below HB.out (by rw[←HG.out];exact HG5.out);have hgr0:g<wr.heap.size:=Nat.lt_of_lt_of_le HG5.out HB.out.size;have HT':=HT.out;have hv1:=(HT'.wt.vd HT'.nm (by decide) (Nat.le_trans HT'.le (by decide))).1
    have hpos:0<ts.length:=by
     obtain ⟨E,S,hwe⟩:=HT'.wt;have:=hwe.lens.2.2;rw[List.length_singleton] at this
     omega
    have hr1:=a5 ts ax g c g1 c1 g2 c2 8 wr hv1 (fun x hx=>(HT'.nm x hx).1) (fun x hx=>Nat.le_trans (HT'.sh x hx) (by decide)) (Nat.le_trans HT'.le (by decide)) hpos hNr hgr0 hs1 hs2 (by decide+kernel) (by decide) bQ bS (bh (bP HT'.nm) (fun k v h=>by cases h)) (HEN.out _ HBW.out);rw[HL.out] at hr1;have HS1:=hid hs1;have HS2:=hid hs2;have HN:=hid hNr;have HLT:=hid hgr0;clear hs1 hs2 hNr hgr0 HR5 HR6 HN5 HV5 HB hlt hlti
    go_wp2_with fail
    refine hr1.mono ?_;rintro e w7 ⟨g7,c7,rfl,hn7,hg7,hb7⟩;have HB7:=hid (HBW.out.trans (hb7.mono (by rw[←HC.out];exact HBW.out.size)))
    have hr2:=a5 (ts.map (rnF ax)) bD g7 c7 g2 c2 g1 c1 8 w7 ((dH HT').vd (bP HT'.nm) (by decide) (by rw[List.length_map];exact Nat.le_trans HT'.le (by decide))).1 (fun x hx=>(bP HT'.nm x hx).1) (fun x hx=>by
        obtain ⟨y,hy,rfl⟩:=List.mem_map.1 hx;rw[(bZ ax y).2.2.1]
        exact Nat.le_trans (HT'.sh y hy) (by decide)) (by rw[List.length_map];exact Nat.le_trans HT'.le (by decide)) (by rw[List.length_map];exact hpos) hn7 hg7 (HS2.out.far hb7) (HS1.out.far hb7) (by decide+kernel) (by decide) bR bT (by rw[bE HT'.nm];exact bh HT'.nm (fun k v h=>by cases h)) (HEN.out _ HB7.out)
    rw[bE HT'.nm,List.length_map,HL.out] at hr2;have HN7:=hid (HN.out.below hb7 HLT.out);have HLT7:=hid (Nat.lt_of_lt_of_le HLT.out hb7.size);clear hr1 hn7 hg7 hb7 hv1 HN HLT HS1 HS2 HBW
    go_wp2_with fail
    refine hr2.mono ?_;rintro e w8 ⟨g8,c8,rfl,hn8,hg8,hb8⟩;have HB8:=hid (HB7.out.trans (hb8.mono (by rw[←HC.out];exact HB7.out.size)));have heq:=refEqual_any (some ⟨g,0,none⟩) (some ⟨g8,0,none⟩) c c8 ts ts w8 ((HN7.out.below hb8 HLT7.out).o (Nat.lt_of_lt_of_le HLT7.out hb8.size)) (hn8.o hg8) (Nat.le_trans HT'.le (by decide)) (Nat.le_trans HT'.le (by decide));rw[show (tsCmp ts ts==0)=true by rw[dj];rfl,HL.out] at heq;clear hr2 hn8 hg8 hb8 HN7 HLT7 HB7
    go_wp2_with fail
    refine heq.mono ?_;rintro e w9 ⟨rfl,hb9⟩;have HB9:=hid (HB8.out.trans (hb9.mono (by rw[←HC.out];exact HB8.out.size)));clear heq hb9 HB8
    go_wp2_with fail
    refine (HAW.out _ HB9.out).mono ?_;rintro e w10 ⟨rfl,hb10⟩;have HB10:=hid (HB9.out.trans (hb10.mono (by rw[←HC.out];exact HB9.out.size)));clear hb10 HB9
    go_wp2
    go_ret
    exact ⟨rfl,by rw[HC.out];exact HB10.out⟩
end Go.Proofs.YthefknoicelhaaaGreatDoor.Se

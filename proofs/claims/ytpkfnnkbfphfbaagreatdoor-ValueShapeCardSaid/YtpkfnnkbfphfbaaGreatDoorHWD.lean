import Derived.Test.YtpkfnnkbfphfbaaGreatDoorHUS
set_option maxRecDepth 100000
set_option maxHeartbeats 40000000
open Go.Lib (hid)
namespace Go.Proofs.YtpkfnnkbfphfbaaGreatDoor.Se
open Go.RowKit Nmx
structure NodeOk (x:Nd) (ks:List Nd) (ss:List Int) (s:Int):Prop where
 fp:fpF x=true
 kn:x.kids=ss.length
 rs:rsF x.op x.sort ss=(s,true)
 mul:x.op=15→(ks.getD 0 ndZ).op=3
inductive WE:Nat→Nat→List Nd→List Int→List Nat→List Int→Prop
 | nil (p d:Nat):WE p d [] [] [] []
 | cons {p d:Nat} {x:Nd} {ks rest:List Nd} {ss rs:List Int} {s:Int} {Ek Er:List Nat} {Sk Sr:List Int}:
     WE (p+1) d ks ss Ek Sk→NodeOk x ks ss s→WE (p+1+ks.length) (d+1) rest rs Er Sr→WE p (d+1) (x::(ks++rest)) (s::rs) ((p+1+ks.length)::(Ek++Er)) (s::(Sk++Sr))
theorem WE.lens {p d:Nat} {ts:List Nd} {ss:List Int} {E:List Nat} {S:List Int} (h:WE p d ts ss E S):E.length=ts.length∧S.length=ts.length∧ss.length≤ts.length:=by
 induction h with
 | nil=>exact ⟨rfl,rfl,aj _⟩
 | cons _ _ _ h1 h2=>simp only[aw,aE];omega
theorem WE.up {p d:Nat} {ts:List Nd} {ss:List Int} {E:List Nat} {S:List Int} (h:WE p d ts ss E S):∀i,i<E.length→p+i<E.getD i 0∧E.getD i 0≤p+ts.length:=by
 induction h with
 | nil=>intro i hi;cases hi
 | @cons p d x ks rest ss rs s Ek Er Sk Sr hk hn hr ihk ihr=>
   have lk:=hk.lens;have lr:=hr.lens;intro i hi;simp only[aw,aE] at hi ⊢;cases i with
   | zero=>simp only[List.getD_cons_zero];omega
   | succ i=>
     rw[List.getD_cons_succ]
     by_cases hlt:i<Ek.length
     · have:=ihk i hlt;rw[aA,List.getElem?_append_left hlt,←aA]
       omega
     · have:=ihr (i-Ek.length) (by omega);rw[aA,List.getElem?_append_right (by omega),←aA]
       omega
def Agr {α:Type} (z:α) (b:Nat) (F:List α) (p:Nat) (E:List α):Prop:=∀i,i<E.length→F.getD (p+i-b) z=E.getD i z
theorem Agr.head {α:Type} {z:α} {b:Nat} {F:List α} {p:Nat} {e:α} {E:List α} (h:Agr z b F p (e::E)):F.getD (p-b) z=e:=by
 have:=h 0 (by simp)
 simpa using this
theorem Agr.tail {α:Type} {z:α} {b:Nat} {F:List α} {p:Nat} {e:α} {E:List α} (h:Agr z b F p (e::E)):Agr z b F (p+1) E:=fun i hi=>by
 have:=h (i+1) (by simpa using hi);rw[List.getD_cons_succ] at this;rw[show p+1+i-b=p+(i+1)-b by omega];exact this
theorem Agr.left {α:Type} {z:α} {b:Nat} {F:List α} {p:Nat} {E1 E2:List α} (h:Agr z b F p (E1++E2)):Agr z b F p E1:=fun i hi=>by
 have:=h i (by rw[aE];omega);rwa [aA (l:=E1++E2),List.getElem?_append_left hi,←aA] at this
theorem Agr.right {α:Type} {z:α} {b:Nat} {F:List α} {p:Nat} {E1 E2:List α} (h:Agr z b F p (E1++E2)):Agr z b F (p+E1.length) E2:=fun i hi=>by
 have:=h (E1.length+i) (by rw[aE];omega);rw[aA (l:=E1++E2),List.getElem?_append_right (by omega),←aA,Nat.add_sub_cancel_left] at this;rw[show p+E1.length+i-b=p+(E1.length+i)-b by omega];exact this
theorem WE.steps {p d:Nat} {ts:List Nd} {ss:List Int} {E:List Nat} {S:List Int} (h:WE p d ts ss E S):∀(n b:Nat) (F:List Nat) (k:Nat),b≤p→p+ts.length≤n→Agr 0 b F p E→cO n b F (ss.length+k) p=cO n b F k (p+ts.length):=by
 induction h with
 | nil=>intro n b F k _ _ _;simp
 | @cons p d x ks rest ss rs s Ek Er Sk Sr hk hn hr ihk ihr=>
   intro n b F k hb hl ha;have lk:=hk.lens;simp only[aw,aE] at hl ⊢;rw[show rs.length+1+k=(rs.length+k)+1 by omega];simp only[cO];rw[aB (by omega),ha.head];have hr2:=ha.tail.right;rw[lk.1] at hr2;rw[ihr n b F k (by omega) (by omega) hr2]
   congr 1;omega
theorem WE.ends {p d:Nat} {ts:List Nd} {ss:List Int} {E:List Nat} {S:List Int} (h:WE p d ts ss E S):∀(n:Nat) (kt:List Int) (Et:List Nat),cy n kt=some Et→Et.length=kt.length→n=p+ts.length+kt.length→cy n (ts.map Nd.kids++kt)=some (E++Et):=by
 induction h with
 | nil=>intro n kt Et h _ _;exact h
 | @cons p d x ks rest ss rs s Ek Er Sk Sr hk hn hr ihk ihr=>
   intro n kt Et he hl hn';have lk:=hk.lens;have lr:=hr.lens;simp only[aw,aE] at hn';have h1:=ihr n kt Et he hl (by omega);have h2:=ihk n (rest.map Nd.kids++kt) (Er++Et) h1 (by simp[lr.1,hl]) (by simp;omega);have e:(x::(ks++rest)).map Nd.kids++kt=x.kids::(ks.map Nd.kids++(rest.map Nd.kids++kt)):=by simp
   rw[e];simp only[cy];rw[h2];have hb:n-(ks.map Nd.kids++(rest.map Nd.kids++kt)).length=p+1:=by simp;omega
   simp only[hb];rw[aB (by rw[hn.kn];omega),hn.kn,Int.toNat_natCast]
   have hst:=hk.steps n (p+1) (Ek++(Er++Et)) 0 (aj _) (by omega) (fun i hi=>by
    rw[show p+1+i-(p+1)=i by omega,aA,List.getElem?_append_left hi,←aA])
   simp only[Nat.add_zero] at hst;rw[hst]
   simp[cO]
theorem WE.trail {p d:Nat} {ts:List Nd} {ss:List Int} {E:List Nat} {S:List Int} (h:WE p d ts ss E S):∀(F:List Nat) (G:List Int) (u:Nat),(∀j,j<u→j<F.getD j 0)→p+ts.length≤u→Agr 0 0 F p E→Agr 0 0 G p S→(Se.trail F p (p+ts.length)).map (G.getD · 0)=ss:=by
 induction h with
 | nil=>intro F G u _ _ _ _;rw[gW (by simp)];rfl
 | @cons p d x ks rest ss rs s Ek Er Sk Sr hk hn hr ihk ihr=>
   intro F G u hu hl hF hG;have lk:=hk.lens;simp only[aw,aE] at hl ⊢;have e0:F.getD p 0=p+1+ks.length:=by have:=hF.head;simpa using this
   have g0:G.getD p 0=s:=by have:=hG.head;simpa using this
   rw[gX (fun j hj=>hu j (by omega)) (by omega) e0,List.map_cons,g0];have f2:=hF.tail.right;have g2:=hG.tail.right;rw[lk.1] at f2;rw[lk.2.1] at g2;have:=ihr F G u hu (by omega) f2 g2;rw[show p+1+ks.length+rest.length=p+(ks.length+rest.length+1) by omega] at this;rw[this]
theorem WE.srt {p d:Nat} {ts:List Nd} {ss:List Int} {E:List Nat} {S:List Int} (h:WE p d ts ss E S):∀(T:List Nd) (F:List Nat) (G Sc:List Int),(∀j,j<T.length→j<F.getD j 0)→F.length=T.length→p+ts.length≤T.length→Agr ndZ 0 T p ts→Agr 0 0 F p E→Agr 0 0 G p S→Sc.length=T.length→(∀j,p+ts.length≤j→j<T.length→Sc.getD j 0=G.getD j 0)→
    ∃Sc',Se.srt T F (p+ts.length) Sc=Se.srt T F p Sc'∧Sc'.length=T.length∧∀j,p≤j→j<T.length→Sc'.getD j 0=G.getD j 0:=by
 induction h with
 | nil=>intro T F G Sc _ _ _ _ _ _ hl hS;exact ⟨Sc,by simp,hl,fun j h1 h2=>hS j (by simpa using h1) h2⟩
 | @cons p d x ks rest ss rs s Ek Er Sk Sr hk hn hr ihk ihr=>
   intro T F G Sc hu hFl hle hT hF hG hl hS;have lk:=hk.lens;have lr:=hr.lens;simp only[aw,aE] at hle hS ⊢;have f2:=hF.tail.right;have g2:=hG.tail.right;have t2:=hT.tail.right;rw[lk.1] at f2;rw[lk.2.1] at g2;obtain ⟨S1,a1,a2,a3⟩:=ihr T F G Sc hu hFl (by omega) t2 f2 g2 hl (fun j h1 h2=>hS j (by omega) h2);obtain ⟨S2,b1,b2,b3⟩:=ihk T F G S1 hu hFl (by omega) hT.tail.left hF.tail.left hG.tail.left a2 (fun j h1 h2=>a3 j h1 h2);have e1:p+1+ks.length+rest.length=p+(ks.length+rest.length+1):=by omega
   rw[e1] at a1;rw[a1,b1];have hx:T.getD p ndZ=x:=by have:=hT.head;simpa using this
   have hx1:x.op=15→(T.getD (p+1) ndZ).op=3:=fun h15=>by
    have hm:=hn.mul h15;cases ks with
    | nil=>simp[ndZ] at hm
    | cons k ks=>
      have:=hT.tail.head;have e:T.getD (p+1) ndZ=k:=by simpa using this
      rw[e];simpa using hm
   have e0:F.getD p 0=p+1+ks.length:=by have:=hF.head;simpa using this
   have g0:G.getD p 0=s:=by have:=hG.head;simpa using this
   have hgS:Agr 0 0 S2 (p+1) Sk:=fun i hi=>by
    have:=hG.tail.left i hi;rw[Nat.sub_zero] at this ⊢;rw[b3 (p+1+i) (by omega) (by omega)];exact this
   have hks:co F S2 p=ss:=by
    unfold co;rw[e0];exact hk.trail F S2 T.length hu (by omega) hF.tail.left hgS
   refine ⟨S2.set p s,?_,by rw[aQ];exact b2,fun j h1 h2=>?_⟩
   · show Se.srt T F (p+1) S2=_;simp only[Se.srt];rw[hx,hks,hn.fp,hn.rs]
     have hc:(true && !(x.op==15 && !((T.getD (p+1) ndZ).op==3)))=true:=by
      by_cases h15:x.op=15
      · rw[hx1 h15];simp
      · simp[h15]
     rw[aF hc];rfl
   · by_cases hj:j=p
     · subst hj;rw[g0,aA,List.getElem?_set_self (by omega)];rfl
     · rw[aA,List.getElem?_set_ne (fun e=>hj e.symm),←aA];exact b3 j (by omega) h2
theorem drop_drop (i j:Nat) (h:j≤i):∀l:List Nat,(l.dropWhile (fun x=>decide (x≤j))).dropWhile (fun x=>decide (x≤i))=l.dropWhile (fun x=>decide (x≤i)):=by
 intro l
 induction l with
 | nil=>rfl
 | cons x l ih=>
   by_cases hx:x≤j
   · rw[List.dropWhile_cons_of_pos (by simpa using hx),ih,List.dropWhile_cons_of_pos (by simp;omega)]
   · rw[List.dropWhile_cons_of_neg (by simpa using hx)]
theorem jh (i j:Nat) (h:j≤i) (op:List Nat):dI i (dI j op)=dI i op:=by
 unfold dI;rw[List.reverse_reverse];exact congrArg List.reverse (drop_drop i j h _)
theorem rR (i:Nat) (op:List Nat):(dI i op).length≤op.length:=by
 unfold dI;rw[List.length_reverse];exact aP (List.dropWhile_sublist _).length_le (by rw[List.length_reverse];exact aj _)
theorem zQ (i j:Nat) (h:j≤i) (op:List Nat):(dI i op).length≤(dI j op).length:=by
 rw[←jh i j h op];exact rR i _
theorem WE.high {p d:Nat} {ts:List Nd} {ss:List Int} {E:List Nat} {S:List Int} (h:WE p d ts ss E S):∀(Et op:List Nat) (best:Nat),∃op' best',dw p (E++Et) op best=dw (p+ts.length) Et op' best'∧dI (p+ts.length) op'=dI (p+ts.length) op∧best'≤max best ((dI p op).length+d):=by
 induction h with
 | nil=>intro Et op best;exact ⟨op,best,rfl,rfl,Nat.le_max_left _ _⟩
 | @cons p d x ks rest ss rs s Ek Er Sk Sr hk hn hr ihk ihr=>
   intro Et op best;have e0:(p+1+ks.length)::(Ek++Er)++Et=(p+1+ks.length)::(Ek++(Er++Et)):=by simp
   rw[e0];simp only[dw];obtain ⟨o1,b1,a1,a2,a3⟩:=ihk (Er++Et) (dI p op++[p+1+ks.length]) (max best ((dI p op).length+1));rw[a1];obtain ⟨o2,b2,c1,c2,c3⟩:=ihr Et o1 b1;rw[c1];have e1:p+1+ks.length+rest.length=p+(x::(ks++rest)).length:=by simp only[aw,aE];omega
   rw[e1] at c2 ⊢
   have hpop:dI (p+1+ks.length) o1=dI (p+1+ks.length) op:=by
    rw[a2,rH _ _ _ (aj _),jh _ _ (by omega)]
   refine ⟨o2,b2,rfl,?_,?_⟩
   · rw[c2,←jh _ (p+1+ks.length) (by simp only[aw,aE];omega) o1,hpop,jh _ _ (by simp only[aw,aE];omega)]
   · have l1:(dI (p+1) (dI p op++[p+1+ks.length])).length≤(dI p op).length+1:=aP (rR _ _) (by simp);have l2:(dI (p+1+ks.length) o1).length≤(dI p op).length:=by rw[hpop];exact zQ _ _ (by omega) op
     omega
def WT (d:Nat) (ts:List Nd) (s:Int):Prop:=∃E S,WE 0 d ts [s] E S
theorem WT.shp {d:Nat} {ts:List Nd} {s:Int} {E:List Nat} {S:List Int} (h:WE 0 d ts [s] E S) (hd:d≤257) (hl:ts.length≤20000):Se.shp ts=some (E,S)∧S.getD 0 0=s:=by
 have lh:=h.lens;have hne:ts≠[]:=by intro e;rw[e] at lh;simp at lh
 have hpos:0<ts.length:=List.length_pos_iff.2 hne;have hE:=h.ends ts.length [] [] rfl rfl (by simp);rw[List.append_nil,List.append_nil] at hE;have hst:=h.steps ts.length 0 E 0 (aj _) (by omega) (fun i hi=>by simp)
 have hE0:E.getD 0 0=ts.length:=by
  simp only[aw,aN,cO,Nat.zero_add,Nat.add_zero] at hst;rw[aB (by omega)] at hst
  simpa using hst
 obtain ⟨o',b',h1,-,h3⟩:=h.high [] [] 0;rw[List.append_nil] at h1
 have hht:dw 0 E [] 0≤257:=by
  rw[h1];simp only[dw];have:(dI 0 []).length=0:=rfl
  omega
 have hup:∀j,j<ts.length→j<E.getD j 0:=fun j hj=>by have:=(h.up j (by omega)).1;omega
 obtain ⟨Sc,g1,g2,g3⟩:=h.srt ts E S (List.replicate ts.length 0) hup lh.1 (by omega) (fun i hi=>by simp) (fun i hi=>by simp) (fun i hi=>by simp) (by simp) (fun j h1 h2=>by omega)
 have hSc:Sc=S:=by
  apply List.ext_getElem?;intro j
  by_cases hj:j<ts.length
  · have:=g3 j (aM _) hj;rw[aA,aA,ay (by omega),ay (by omega)] at this;rw[ay (by omega),ay (by omega)];exact congrArg some this
  · rw[List.getElem?_eq_none (by omega),List.getElem?_eq_none (by omega)]
 rw[Nat.zero_add] at g1;refine ⟨?_,?_⟩
 · unfold Se.shp;rw[aB (fun e=>by rcases e with e | e;exact hne e;omega),hE];simp only;rw[aF ⟨hE0,hht⟩,g1,hSc];rfl
 · have ht:=h.trail E S ts.length hup (by omega) (fun i hi=>by simp) (fun i hi=>by simp);rw[Nat.zero_add,gX hup hpos hE0,gW (by omega)] at ht
   simpa using ht
def Nm (V:List (ByteArray×Int)) (ts:List Nd):Prop:=∀x∈ts,¬x.op=5∧(x.op=4→cp x.name V=some x.sort)
theorem wi {β:Type} (k k':ByteArray) (v:β):∀V:List (ByteArray×β),cp k (mX k' v V)=if k=k' then some v else cp k V:=by
 intro V
 induction V with
 | nil=>simp only[mX,cp]
 | cons p V ih=>
   simp only[mX]
   by_cases hk:k'=p.1
   · rw[aF hk];simp only[cp]
     by_cases h2:k=k'
     · rw[aF h2,aF h2]
     · rw[aB h2,aB h2,aB (fun e=>h2 (e.trans hk.symm))]
   · rw[aB hk];simp only[cp];rw[ih]
     by_cases h2:k=p.1
     · rw[aF h2,aF h2,aB (fun e=>hk (e.symm.trans h2))]
     · rw[aB h2,aB h2]
theorem Nm.nag {V:List (ByteArray×Int)} {ts:List Nd} (h:Nm V ts) (E:List Nat) (S:List Int):∀(i:Nat) (U:List (ByteArray×Int)) (F:List (ByteArray×List Int)),(∀k v,cp k U=some v→cp k V=some v)→∃U',fK E S ts i U F=some (U',F)∧∀k v,cp k U'=some v→cp k V=some v:=by
 induction ts with
 | nil=>intro i U F h;exact ⟨U,rfl,h⟩
 | cons x ts ih=>
   intro i U F hU;obtain ⟨h5,h4⟩:=h x (by simp);have hts:Nm V ts:=fun y hy=>h y (by simp[hy])
   simp only[fK]
   by_cases q4:x.op=4
   · rw[aF q4];have hv:=h4 q4
     have hall:(cp x.name U).all (·==x.sort)=true:=by
      cases hl:cp x.name U with
      | none=>rfl
      | some v=>
        have:=hU _ _ hl;rw[hv] at this
        simp[Option.some.inj this]
     rw[aF hall]
     exact ih hts (i+1) _ F (fun k v hk=>by
      rw[wi] at hk
      by_cases e:k=x.name
      · rw[aF e] at hk;rw[e,hv];exact hk
      · rw[aB e] at hk;exact hU k v hk)
   · rw[aB q4,aB h5];exact ih hts (i+1) U F hU
theorem Nm.na {V:List (ByteArray×Int)} {ts:List Nd} (h:Nm V ts) (E:List Nat) (S:List Int):naF ts E S=true:=by
 obtain ⟨U,hU,-⟩:=h.nag E S 0 [] [] (fun k v hk=>by cases hk);unfold naF;rw[hU];simp only[List.all_eq_true];intro x hx;have:=(h x hx).1
 simp[this]
theorem WT.vd {V:List (ByteArray×Int)} {d:Nat} {ts:List Nd} {s:Int} (h:WT d ts s) (hn:Nm V ts) (hd:d≤257) (hl:ts.length≤20000):vdF (naF ts) ts=true∧soF (naF ts) ts=s:=by
 obtain ⟨E,S,h⟩:=h;obtain ⟨h1,h2⟩:=WT.shp h hd hl;unfold vdF soF;rw[h1];simp only;rw[hn.na,aF rfl];exact ⟨rfl,h2⟩
def da (l:List Int) (a out:Int):Int:=if l.all (·==a) then out else 0
def nuF (s:Int):Bool:=s==2 || s==3
def rrF (op sort first:Int) (l:List Int):Int:=
 if op=1∨op=2 then 1 else if op=3∨op=4∨op=5 then sort
 else if op=6∨op=7∨op=8∨op=9 then da l 1 1
 else if op=10 then (if l.getD 0 0==1 && l.getD 1 0==l.getD 2 0 then l.getD 1 0 else 0)
 else if op=11 then da l (l.getD 0 0) 1
 else if op=12∨op=13 then (if nuF (l.getD 0 0) then da l (l.getD 0 0) 1 else 0)
 else if op=14 then (if nuF (l.getD 0 0) then da l (l.getD 0 0) (l.getD 0 0) else 0)
 else if op=15 then (if first=3 then da l (l.getD 0 0) (l.getD 0 0) else 0)
 else if op=16∨op=17 then da l 2 2
 else if op=20 then da l 2 4
 else if op=18 then (if l.getD 0 0==4 && l.getD 1 0==2 then 2 else 0)
 else if op=19 then (if l.getD 0 0==4 && (l.getD 1 0==2 && l.getD 2 0==2) then 4 else 0)
 else 0
def raF (op n:Int):Bool:=
 if op=1∨op=2∨op=3∨op=4 then n==0
 else if op=5 then decide (1≤n) && decide (n≤40)
 else if op=6∨op=16∨op=17∨op=20 then n==1
 else if op=7∨op=8 then decide (0≤n)
 else if op=10∨op=19 then n==3
 else if op=14 then decide (1≤n)
 else n==2
theorem ku {l:List Int} {a c o:Int} (h:dG (a::l) c=true):a=c∧da (a::l) a o=o:=by
 unfold dG at h;simp only[List.all_cons,Bool.and_eq_true,beq_iff_eq] at h;refine ⟨h.1,?_⟩;unfold da;rw[aF];simp only[List.all_cons,Bool.and_eq_true,true_and,beq_self_eq_true];rw[h.1];exact h.2
theorem A4 {ss:List Int} (h:(ss.length:Int)≤0):ss=[]:=List.length_eq_zero_iff.1 (by omega)
theorem wj {ss:List Int} (h:1≤(ss.length:Int)) (h':(ss.length:Int)≤1):∃a,ss=[a]:=List.length_eq_one_iff.1 (by omega)
theorem yu {ss:List Int} (h:2≤(ss.length:Int)) (h':(ss.length:Int)≤2):∃a b,ss=[a,b]:=by
 match ss,h,h' with
 | [a,b],_,_=>exact ⟨a,b,rfl⟩
 | [],h,_=>simp at h
 | [_],h,_=>simp at h
 | _::_::_::_,_,h'=>simp only[aw] at h';omega
theorem By {ss:List Int} (h:3≤(ss.length:Int)) (h':(ss.length:Int)≤3):∃a b c,ss=[a,b,c]:=by
 match ss,h,h' with
 | [a,b,c],_,_=>exact ⟨a,b,c,rfl⟩
 | [],h,_=>simp at h
 | [_],h,_=>simp at h
 | [_,_],h,_=>simp at h
 | _::_::_::_::_,_,h'=>simp only[aw] at h';omega
theorem BX {ss:List Int} (h:1≤(ss.length:Int)):∃a l,ss=a::l:=by
 cases ss with
 | nil=>simp at h
 | cons a l=>exact ⟨a,l,rfl⟩
theorem pr {a s:Int} {b:Bool} (h:(a,b)=(s,true)):a=s∧b=true:=⟨congrArg Prod.fst h,congrArg Prod.snd h⟩
theorem ky {l:List Int} {a o:Int} (h:dG l a=true):da l a o=o:=by
 unfold da;unfold dG at h;rw[aF h]
theorem tX {l:List Int} {a:Int} (h:(dG (a::l) 2 || dG (a::l) 3)=true):(a=2∨a=3)∧nuF a=true∧∀o,da (a::l) a o=o:=by
 rw[Bool.or_eq_true] at h;rcases h with h | h
 · obtain ⟨rfl,-⟩:=ku (o:=0) h;exact ⟨.inl rfl,rfl,fun o=>(ku h).2⟩
 · obtain ⟨rfl,-⟩:=ku (o:=0) h;exact ⟨.inr rfl,rfl,fun o=>(ku h).2⟩
theorem An {x:Nd} {ss:List Int} {s first:Int} (hfp:fpF x=true) (hk:x.kids=ss.length) (hrs:rsF x.op x.sort ss=(s,true)) (hso:∀a∈ss,1≤a∧a≤4) (hf:x.op=15→first=3):rrF x.op x.sort first ss=s∧raF x.op x.kids=true∧1≤s∧s≤4:=by
 obtain ⟨op,sort,name,num,kids⟩:=x;simp only at hk hrs hf ⊢;unfold fpF at hfp;simp only[Bool.and_eq_true,decide_eq_true_eq] at hfp;obtain ⟨h1,h2,h3,h4,hfd⟩:=hfp;subst hk;rcases iL op with (rfl | rfl | rfl | rfl | rfl | rfl | rfl | rfl | rfl | rfl | rfl | rfl | rfl | rfl | rfl | rfl | rfl | rfl | rfl | rfl) | h
 iterate 2
  · obtain rfl:=A4 h4;obtain ⟨rfl,-⟩:=pr hrs;exact ⟨rfl,rfl,by decide,by decide⟩
 · obtain rfl:=A4 h4;obtain ⟨rfl,-⟩:=pr hrs
   have hq:sort=2∨sort=3:=by
    unfold fdF at hfd;rw[aF rfl,Bool.and_eq_true,Bool.or_eq_true] at hfd
    simpa using hfd.1
   exact ⟨rfl,rfl,by omega,by omega⟩
 · obtain rfl:=A4 h4;obtain ⟨rfl,-⟩:=pr hrs
   have hq:1≤sort∧sort≤4:=by
    unfold fdF at hfd;rw[aB (show ¬(4:Int)=3 by decide),aF (show (4:Int)=4∨(4:Int)=5 by decide),Bool.and_eq_true] at hfd;have:=hfd.1;unfold srF at this
    simpa using this
   exact ⟨rfl,rfl,hq.1,hq.2⟩
 · obtain ⟨rfl,-⟩:=pr hrs
   have hq:1≤sort∧sort≤4:=by
    unfold fdF at hfd;rw[aB (show ¬(5:Int)=3 by decide),aF (show (5:Int)=4∨(5:Int)=5 by decide),Bool.and_eq_true] at hfd;have:=hfd.1;unfold srF at this
    simpa using this
   refine ⟨rfl,?_,hq.1,hq.2⟩;show (decide (1≤(ss.length:Int)) && decide ((ss.length:Int)≤40))=true;have h3':1≤(ss.length:Int):=h3;have h4':(ss.length:Int)≤40:=h4
   simp[h3',h4']
 · obtain ⟨a,rfl⟩:=wj h3 h4;obtain ⟨rfl,ha⟩:=pr hrs;exact ⟨ky ha,rfl,by decide,by decide⟩
 iterate 2
  · obtain ⟨rfl,ha⟩:=pr hrs;refine ⟨ky ha,?_,by decide,by decide⟩;show decide (0≤(ss.length:Int))=true
    simp
 · obtain ⟨a,b,rfl⟩:=yu h3 h4;obtain ⟨rfl,ha⟩:=pr hrs;exact ⟨ky ha,rfl,by decide,by decide⟩
 · obtain ⟨a,b,c,rfl⟩:=By h3 h4;obtain ⟨rfl,ha⟩:=pr hrs;have hb:=hso _ (show b∈[a,b,c] by simp);have ha2:(a==1 && b==c)=true:=ha;exact ⟨by show (if (a==1 && b==c)=true then b else 0)=b;rw[aF ha2],rfl,hb.1,hb.2⟩
 · obtain ⟨a,b,rfl⟩:=yu h3 h4;obtain ⟨rfl,ha⟩:=pr hrs;have hab:a=b:=by simpa using ha
   subst hab;exact ⟨by show da [a,a] a 1=1;unfold da;rw[aF (by simp)],rfl,by decide,by decide⟩
 iterate 2
  · obtain ⟨a,b,rfl⟩:=yu h3 h4;obtain ⟨rfl,ha⟩:=pr hrs;obtain ⟨h5,h6,h7⟩:=tX ha;exact ⟨by show (if nuF a=true then da [a,b] a 1 else 0)=1;rw[aF h6,h7],rfl,by decide,by decide⟩
 · obtain ⟨a,l,rfl⟩:=BX h3;obtain ⟨rfl,ha⟩:=pr hrs;obtain ⟨h5,h6,h7⟩:=tX ha;refine ⟨by show (if nuF a=true then da (a::l) a a else 0)=a;rw[aF h6,h7],?_,by show 1≤a;omega,by show a≤4;omega⟩;show decide (1≤((a::l).length:Int))=true
   simp;omega
 · obtain ⟨a,b,rfl⟩:=yu h3 h4;obtain ⟨rfl,ha⟩:=pr hrs;obtain ⟨h5,h6,h7⟩:=tX ha;exact ⟨by show (if first=3 then da [a,b] a a else 0)=a;rw[aF (hf rfl),h7],rfl,by show 1≤a;omega,by show a≤4;omega⟩
 iterate 2
  · obtain ⟨a,rfl⟩:=wj h3 h4;obtain ⟨rfl,ha⟩:=pr hrs;have hab:a=2:=by simpa using ha
    subst hab;exact ⟨rfl,rfl,by decide,by decide⟩
 · obtain ⟨a,b,rfl⟩:=yu h3 h4;obtain ⟨rfl,ha⟩:=pr hrs;have ha2:(a==4 && b==2)=true:=ha;exact ⟨by show (if (a==4 && b==2)=true then 2 else 0)=2;rw[aF ha2],rfl,by decide,by decide⟩
 · obtain ⟨a,b,c,rfl⟩:=By h3 h4;obtain ⟨rfl,ha⟩:=pr hrs;have ha2:(a==4 && (b==2 && c==2))=true:=ha;exact ⟨by show (if (a==4 && (b==2 && c==2))=true then 4 else 0)=4;rw[aF ha2],rfl,by decide,by decide⟩
 · obtain ⟨a,rfl⟩:=wj h3 h4;obtain ⟨rfl,ha⟩:=pr hrs;have hab:a=2:=by simpa using ha
   subst hab;exact ⟨rfl,rfl,by decide,by decide⟩
 · omega
theorem WE.sorts {p d:Nat} {ts:List Nd} {ss:List Int} {E:List Nat} {S:List Int} (h:WE p d ts ss E S):∀a∈ss,1≤a∧a≤4:=by
 induction h with
 | nil=>intro a ha;cases ha
 | cons hk hn hr ihk ihr=>
   intro a ha;rcases List.mem_cons.1 ha with rfl | ha
   · exact (An (first:=3) hn.fp hn.kn hn.rs ihk (fun _=>rfl)).2.2
   · exact ihr a ha
end Go.Proofs.YtpkfnnkbfphfbaaGreatDoor.Se
namespace Go.Proofs.YtpkfnnkbfphfbaaGreatDoor
open Go.RowKit Nmx Go.Proofs.Tryz
theorem eR {s:ByteArray} {x:List UInt8} (h:s.toList=x):s=⟨x.toArray⟩:=by
 apply d6;rw[←ByteArray.toList_eq];exact h
theorem oI (x:List UInt8):(⟨x.toArray⟩:ByteArray).toList=x:=by rw[ByteArray.toList_eq]
theorem A5 (l:List (List UInt8)) (s:ByteArray) (B:Nat) (w:World) (hl:l.length≤1000) (hB:w.heap[B]? =some (.cells (l.map fun x=>Value.string ⟨x.toArray⟩).toArray 9 (0,0))):
    Calls prog 219 #[.slice (some ⟨B,0,none⟩) l.length l.length,.string s] w fun e w'=>e=.returned (.bool (l.any fun x=>s.toList==x))∧w'=w:=by
 have HB:=hid hB;obtain ⟨n,hn⟩:∃n,l.length=n:=⟨_,rfl⟩
 have HN:=hid hn;rw[hn] at hl ⊢;clear hn hB
 go_enter func219,ntmps219
 go_wp2
 go_loop [5] (fun iv=>∃k:Nat,k≤n∧iv=.int .i64 k∧∀x∈l.take k,(s.toList==x)=false) (fun iv=>n-(intOf iv).toNat)
 case atStart=>exact ⟨0,aM _,rfl,fun x hx=>by rw[List.take_zero] at hx;exact (List.not_mem_nil hx).elim⟩
 case round=>
  obtain ⟨k,hk,rfl,ha⟩:=hrel;have HA:=hid ha;clear ha
  by_cases hlt:k<n
  · have hlt':k<l.length:=by rw[HN.out];exact hlt
    have hlti:(k:Int)<(n:Int):=by omega
    have hc:w.cell? ⟨B,k,none⟩=some (.string ⟨l[k].toArray⟩):=(aa HB.out k).trans (by simp[hlt'])
    by_cases he:s.toList=l[k]
    · have hR:(l.any fun x=>s.toList==x)=true:=List.any_eq_true.2 ⟨l[k],List.getElem_mem hlt',by rw[he];simp⟩;have HR:=hid hR;have hq:((⟨l[k].toArray⟩:ByteArray).toList==s.toList)=true:=by rw[oI,he];simp
      obtain ⟨tn,htn⟩:∃t:ByteArray,(⟨l[k].toArray⟩:ByteArray)=t:=⟨_,rfl⟩
      rw[htn] at hc hq;clear he hR htn
      go_wp2
      go_ret
      exact ⟨ret_bool HR.out.symm,rfl⟩
    · have HD:Hid (∀x∈l.take (k+1),(s.toList==x)=false):=hid (fun x hx=>by
        rw[List.take_succ_eq_append_getElem hlt'] at hx;rcases List.mem_append.1 hx with h | h
        · exact HA.out x h
        · rw[List.mem_singleton.1 h];exact beq_eq_false_iff_ne.2 he)
      have hq:((⟨l[k].toArray⟩:ByteArray).toList==s.toList)=false:=by rw[oI];exact beq_eq_false_iff_ne.2 fun e=>he e.symm
      obtain ⟨tn,htn⟩:∃t:ByteArray,(⟨l[k].toArray⟩:ByteArray)=t:=⟨_,rfl⟩
      rw[htn] at hc hq;clear he htn
      go_wp2
      go_round
      case rel=>exact ⟨k+1,by omega,by go_num,HD.out⟩
      case measure=>simp[intOf];omega
  · have hlti:¬((k:Int)<(n:Int)):=by omega
    have HR:Hid ((l.any fun x=>s.toList==x)=false):=hid (by
     have hall:l.take k=l:=aT (by rw[HN.out];omega);have:=HA.out;rw[hall] at this
     exact List.any_eq_false.2 fun x hx=>by rw[this x hx];exact Bool.false_ne_true)
    go_wp2
    go_ret
    exact ⟨ret_bool HR.out.symm,rfl⟩
theorem lJ (w:World):Calls prog 220 #[] w fun e w'=>e=.returned (.slice (some ⟨w.heap.size,0,none⟩) 19 19)∧w'=w.alloc (.cells (rL.map fun x=>Value.string ⟨x.toArray⟩).toArray 9):=by
 go_enter func220,ntmps220
 go_wp2
 go_ret
 exact ⟨rfl,rfl⟩
theorem tY (s:ByteArray) (B:Nat) (w:World) (hB:w.heap[B]? =some (.cells (rL.map fun x=>Value.string ⟨x.toArray⟩).toArray 9 (0,0))):Calls prog 219 #[.slice (some ⟨B,0,none⟩) 19 19,.string s] w fun e w'=>e=.returned (.bool (pO s.toList))∧w'=w:=
 A5 rL s B w (by decide) hB
theorem rS (s:ByteArray) (w:World):Calls prog 196 #[.string s] w fun e w'=>e=.returned (.bool (cZ s.toList))∧Below w.heap.size w w':=by
 by_cases h0:s.toList=[]
 · have h0':s.toList.isEmpty=true:=by rw[h0];rfl
   have HR:Hid (cZ s.toList=false):=hid (by unfold cZ;rw[h0'];rfl)
   go_enter func196,ntmps196
   go_wp2
   go_ret
   exact ⟨ret_bool HR.out.symm,am _ _⟩
 have h0':s.toList.isEmpty=false:=by
  cases h:s.toList with
  | nil=>exact absurd h h0
  | cons _ _=>rfl
 by_cases h1:40<s.size
 · have h1':(40:Int)<(s.size:Int):=by omega
   have HR:Hid (cZ s.toList=false):=hid (by unfold cZ;rw[iP,aD (by omega),Bool.and_false];rfl)
   go_enter func196,ntmps196
   go_wp2
   go_ret
   exact ⟨ret_bool HR.out.symm,am _ _⟩
 have h1':¬(40:Int)<(s.size:Int):=by omega
 have HBL:Hid (Below w.heap.size w (w.alloc (.cells (rL.map fun x=>Value.string ⟨x.toArray⟩).toArray 9))):=hid ((am _ _).alloc (aj _) _);have HIN:=hid (tY s w.heap.size _ (aq w (.cells (rL.map fun x=>Value.string ⟨x.toArray⟩).toArray 9)));have hrv:=lJ w;generalize w.alloc (.cells (rL.map fun x=>Value.string ⟨x.toArray⟩).toArray 9)=w0 at *;have HRV:=hid hrv;clear hrv
 by_cases hr:pO s.toList=true
 · have HR:Hid (cZ s.toList=false):=hid (by unfold cZ;rw[hr,Bool.not_true,Bool.and_false];rfl)
   go_enter func196,ntmps196
   go_wp2_with fail
   refine HRV.out.mono ?_;rintro e w1 ⟨rfl,rfl⟩
   go_wp2_with fail
   refine HIN.out.mono ?_;rintro e w1 ⟨rfl,rfl⟩
   go_wp2
   go_ret
   exact ⟨ret_bool HR.out.symm,HBL.out⟩
 replace hr:pO s.toList=false:=by simpa using hr
 go_enter func196,ntmps196
 go_wp2_with fail
 refine HRV.out.mono ?_;rintro e w1 ⟨rfl,rfl⟩
 go_wp2_with fail
 refine HIN.out.mono ?_;rintro e w1 ⟨rfl,rfl⟩
 go_wp2_with fail
 clear HRV HIN
 go_loop [3] (fun iv=>∃k:Nat,k≤s.size∧iv=.int .i64 k∧∀j,j<k→okC j ((s.toList.getD j 0).toNat:Int)=true) (fun iv=>s.size-(intOf iv).toNat)
 case atStart=>exact ⟨0,aM _,rfl,fun j hj=>absurd hj (Nat.not_lt_zero j)⟩
 case round=>
  obtain ⟨k,hk,rfl,ha⟩:=hrel;have HA:=hid ha;clear ha
  by_cases hlt:k<s.size
  · skip
    by_cases hL:pN (s[k].toNat:Int)=true
    · have HD:=hid (dn hlt HA.out (by simp[okC,gC,gD,hL]))
      go_wp2_with (first | (go_at_call 221;refine (bX _ _).mono ?_;rintro e w2 ⟨rfl,rfl⟩))
      go_round
      case rel=>exact ⟨k+1,by omega,by go_num,HD.out⟩
      case measure=>simp[intOf];omega
    · replace hL:pN (s[k].toNat:Int)=false:=by simpa using hL
      by_cases h95:(s[k].toNat:Int)=95
      · have q95:((s[k].toNat:Int)==95)=true:=by rw[beq_iff_eq];omega
        have d95:decide ((s[k].toNat:Int)=95)=true:=aH (by omega);clear h95;have HD:=hid (dn hlt HA.out (by simp[okC,gC,gD,hL,q95]))
        go_wp2_with (first | (go_at_call 221;refine (bX _ _).mono ?_;rintro e w2 ⟨rfl,rfl⟩))
        go_round
        case rel=>exact ⟨k+1,by omega,by go_num,HD.out⟩
        case measure=>simp[intOf];omega
      · have q95:((s[k].toNat:Int)==95)=false:=by rw[beq_eq_false_iff_ne];omega
        have d95:decide ((s[k].toNat:Int)=95)=false:=aD (by omega)
        by_cases h36:(s[k].toNat:Int)=36
        · have q36:((s[k].toNat:Int)==36)=true:=by rw[beq_iff_eq];omega
          have d36:decide ((s[k].toNat:Int)=36)=true:=aH (by omega);clear h36;have HD:=hid (dn hlt HA.out (by simp[okC,gC,gD,hL,q95,q36]))
          go_wp2_with (first | (go_at_call 221;refine (bX _ _).mono ?_;rintro e w2 ⟨rfl,rfl⟩))
          go_round
          case rel=>exact ⟨k+1,by omega,by go_num,HD.out⟩
          case measure=>simp[intOf];omega
        · have q36:((s[k].toNat:Int)==36)=false:=by rw[beq_eq_false_iff_ne];omega
          have d36:decide ((s[k].toNat:Int)=36)=false:=aD (by omega)
          by_cases h33:(s[k].toNat:Int)=33
          · have q33:((s[k].toNat:Int)==33)=true:=by rw[beq_iff_eq];omega
            have d33:decide ((s[k].toNat:Int)=33)=true:=aH (by omega);clear h33;have HD:=hid (dn hlt HA.out (by simp[okC,gC,gD,hL,q95,q36,q33]))
            go_wp2_with (first | (go_at_call 221;refine (bX _ _).mono ?_;rintro e w2 ⟨rfl,rfl⟩))
            go_round
            case rel=>exact ⟨k+1,by omega,by go_num,HD.out⟩
            case measure=>simp[intOf];omega
          · have q33:((s[k].toNat:Int)==33)=false:=by rw[beq_eq_false_iff_ne];omega
            have d33:decide ((s[k].toNat:Int)=33)=false:=aD (by omega)
            by_cases hk:k=0
            · subst hk;have HR:Hid (cZ s.toList=false):=hid (iQ hlt (by simp[okC,gC,gD,hL,q95,q36,q33]))
              go_wp2_with (first | (go_at_call 221;refine (bX _ _).mono ?_;rintro e w2 ⟨rfl,rfl⟩))
              go_ret
              exact ⟨ret_bool HR.out.symm,HBL.out⟩
            · have hk0:(k==0)=false:=by rw[beq_eq_false_iff_ne];exact hk
              have hki:((k:Int)==0)=false:=by rw[beq_eq_false_iff_ne];omega
              have hkd:decide ((k:Int)=0)=false:=aD (by omega)
              by_cases g1:(s[k].toNat:Int)<48
              · have hD':mW (s[k].toNat:Int)=false:=by simp[mW];omega
                by_cases h46:(s[k].toNat:Int)=46
                · have q46:((s[k].toNat:Int)==46)=true:=by rw[beq_iff_eq];omega
                  have d46:decide ((s[k].toNat:Int)=46)=true:=aH (by omega);have n46:((s[k].toNat:Int) !=46)=false:=by rw[bne,q46];rfl
                  clear h46;have HD:=hid (dn hlt HA.out (by simp[okC,gC,gD,hL,hD',q46,hk0]))
                  go_wp2_with (first | (go_at_call 221;refine (bX _ _).mono ?_;rintro e w2 ⟨rfl,rfl⟩))
                  go_round
                  case rel=>exact ⟨k+1,by omega,by go_num,HD.out⟩
                  case measure=>simp[intOf];omega
                · have q46:((s[k].toNat:Int)==46)=false:=by rw[beq_eq_false_iff_ne];omega
                  have d46:decide ((s[k].toNat:Int)=46)=false:=aD (by omega);have n46:((s[k].toNat:Int) !=46)=true:=by rw[bne,q46];rfl
                  have h64:¬(s[k].toNat:Int)=64:=by omega
                  have q64:((s[k].toNat:Int)==64)=false:=by rw[beq_eq_false_iff_ne];omega
                  have d64:decide ((s[k].toNat:Int)=64)=false:=aD (by omega);have n64:((s[k].toNat:Int) !=64)=true:=by rw[bne,q64];rfl
                  have HR:Hid (cZ s.toList=false):=hid (iQ hlt (by simp[okC,gC,gD,hL,q95,q36,q33,hD',q46,q64]))
                  go_wp2_with (first | (go_at_call 221;refine (bX _ _).mono ?_;rintro e w2 ⟨rfl,rfl⟩))
                  go_ret
                  exact ⟨ret_bool HR.out.symm,HBL.out⟩
              · by_cases g2:57<(s[k].toNat:Int)
                · have hD':mW (s[k].toNat:Int)=false:=by simp[mW];omega
                  have h46:¬(s[k].toNat:Int)=46:=by omega
                  have q46:((s[k].toNat:Int)==46)=false:=by rw[beq_eq_false_iff_ne];omega
                  have d46:decide ((s[k].toNat:Int)=46)=false:=aD (by omega);have n46:((s[k].toNat:Int) !=46)=true:=by rw[bne,q46];rfl
                  by_cases h64:(s[k].toNat:Int)=64
                  · have q64:((s[k].toNat:Int)==64)=true:=by rw[beq_iff_eq];omega
                    have d64:decide ((s[k].toNat:Int)=64)=true:=aH (by omega);have n64:((s[k].toNat:Int) !=64)=false:=by rw[bne,q64];rfl
                    clear h64;have HD:=hid (dn hlt HA.out (by simp[okC,gC,gD,hL,hD',q64,hk0]))
                    go_wp2_with (first | (go_at_call 221;refine (bX _ _).mono ?_;rintro e w2 ⟨rfl,rfl⟩))
                    go_round
                    case rel=>exact ⟨k+1,by omega,by go_num,HD.out⟩
                    case measure=>simp[intOf];omega
                  · have q64:((s[k].toNat:Int)==64)=false:=by rw[beq_eq_false_iff_ne];omega
                    have d64:decide ((s[k].toNat:Int)=64)=false:=aD (by omega);have n64:((s[k].toNat:Int) !=64)=true:=by rw[bne,q64];rfl
                    have HR:Hid (cZ s.toList=false):=hid (iQ hlt (by simp[okC,gC,gD,hL,q95,q36,q33,hD',q46,q64]))
                    go_wp2_with (first | (go_at_call 221;refine (bX _ _).mono ?_;rintro e w2 ⟨rfl,rfl⟩))
                    go_ret
                    exact ⟨ret_bool HR.out.symm,HBL.out⟩
                · have hD:mW (s[k].toNat:Int)=true:=by simp[mW];omega
                  have HD:=hid (dn hlt HA.out (by simp[okC,gC,gD,hL,hD,hk0]))
                  go_wp2_with (first | (go_at_call 221;refine (bX _ _).mono ?_;rintro e w2 ⟨rfl,rfl⟩))
                  go_round
                  case rel=>exact ⟨k+1,by omega,by go_num,HD.out⟩
                  case measure=>simp[intOf];omega
  · have HR:Hid (cZ s.toList=true):=hid (oG h0 h1 hr (by omega) HA.out);have hlt':¬((k:Int)<(s.size:Int)):=by omega
    go_wp2
    go_ret
    exact ⟨ret_bool HR.out.symm,HBL.out⟩
end Go.Proofs.YtpkfnnkbfphfbaaGreatDoor
namespace Go.Proofs.YtpkfnnkbfphfbaaGreatDoor.Se
open Go.RowKit Nmx Go.Proofs.Tryz
theorem tZ (s:Int) (w:World):Calls prog 30 #[.int .i64 s] w fun e w'=>e=.returned (.bool (srF s))∧w'=w:=by
 by_cases h1:1≤s
 · by_cases h2:s≤4
   · have HN:Hid (srF s=true):=hid (by unfold srF;simp[h1,h2])
     go_enter func30,ntmps30
     go_wp2
     go_ret
     exact ⟨by rw[HN.out];rfl,rfl⟩
   · have HN:Hid (srF s=false):=hid (by unfold srF;simp[h2])
     go_enter func30,ntmps30
     go_wp2
     go_ret
     exact ⟨by rw[HN.out];rfl,rfl⟩
 · have HN:Hid (srF s=false):=hid (by unfold srF;simp[h1])
   go_enter func30,ntmps30
   go_wp2
   go_ret
   exact ⟨by rw[HN.out];rfl,rfl⟩
theorem rT (s:Int) (w:World):Calls prog 198 #[.int .i64 s] w fun e w'=>e=.returned (.bool (nuF s))∧w'=w:=by
 by_cases h1:s=2
 · subst h1
   go_enter func198,ntmps198
   go_wp2
   go_ret
   exact ⟨rfl,rfl⟩
 · by_cases h2:s=3
   · subst h2
     go_enter func198,ntmps198
     go_wp2
     go_ret
     exact ⟨rfl,rfl⟩
   · have HN:Hid (nuF s=false):=hid (by unfold nuF;simp[h1,h2]);have h3:(s==2)=false:=by simp[h1]
     have h4:(s==3)=false:=by simp[h2]
     go_enter func198,ntmps198
     go_wp2
     go_ret
     exact ⟨by rw[HN.out];rfl,rfl⟩
theorem gF (t:ByteArray) (w:World) (hs:t.size≤1000):Calls prog 43 #[.string t] w fun e w'=>e=.returned (.bool (iN t))∧Below w.heap.size w w':=by
 have h:=kh t w (by omega);rw[show isI t.data.toList=iN t from rfl] at h;exact h
theorem rU (t:ByteArray) (w:World) (hs:t.size≤1000):Calls prog 52 #[.string t] w fun e w'=>e=.returned (.bool (vN t))∧Below w.heap.size w w':=
 kg t w (by omega)
theorem zR (t:ByteArray) (w:World) (hs:t.size≤1000):Calls prog 71 #[.string t] w fun e w'=>e=.returned (.int .i64 (sN t))∧Below w.heap.size w w':=by
 have h:=lz t w (by omega);rw[show sgO t.data.toList=sN t from by unfold sgO sN;cases bp t.data.toList <;> rfl] at h;exact h
theorem kz (t:ByteArray) (w:World) (hs:t.size≤1000) {b:Bool} (h:iN t=b):Calls prog 43 #[.string t] w fun e w'=>e=.returned (.bool b)∧Below w.heap.size w w':=by
 rw[←h];exact gF t w hs
theorem rV (t:ByteArray) (w:World) (hs:t.size≤1000) {b:Bool} (h:vN t=b):Calls prog 52 #[.string t] w fun e w'=>e=.returned (.bool b)∧Below w.heap.size w w':=by
 rw[←h];exact rU t w hs
theorem pT (t:ByteArray) (w:World) {b:Bool} (h:cZ t.toList=b):Calls prog 196 #[.string t] w fun e w'=>e=.returned (.bool b)∧Below w.heap.size w w':=by
 rw[←h];exact rS t w
theorem rW (s:Int) (w:World) {b:Bool} (h:srF s=b):Calls prog 30 #[.int .i64 s] w fun e w'=>e=.returned (.bool b)∧w'=w:=by
 rw[←h];exact tZ s w
def nI (x:Nd):Bool:=decide (1≤x.op) && (decide (x.op≤20) && fdF x)
theorem Bz {t:ByteArray} (h:iN t=true):vN t=true:=by
 unfold iN at h;unfold vN;cases hq:bp t.data.toList with
 | none=>rw[hq] at h;cases h
 | some q=>rfl
theorem nJ (x:Nd) (w:World) (hs:x.num.size≤1000):
    Calls prog 160 #[x.val] w fun e w'=>e=.returned (.bool (nI x))∧Below w.heap.size w w':=by
 obtain ⟨op,sort,name,num,kids⟩:=x;unfold Nd.val;simp only at hs;have hbw:Below w.heap.size w (w.alloc (.cells #[.int .i64 op,.int .i64 sort,.string name,.string num,.int .i64 kids] 57)):=(am _ _).alloc (aj _) _;have hl:w.heap.size<(w.alloc (.cells #[.int .i64 op,.int .i64 sort,.string name,.string num,.int .i64 kids] 57)).heap.size:=by simp
 have HB:=hid hbw;have c0:(w.alloc (.cells #[.int .i64 op,.int .i64 sort,.string name,.string num,.int .i64 kids] 57)).cell? ⟨w.heap.size,0,none⟩=some (.int .i64 op):=by rw[World.cell?_alloc_at _ _ _ _ rfl];rfl
 have c1:(w.alloc (.cells #[.int .i64 op,.int .i64 sort,.string name,.string num,.int .i64 kids] 57)).cell? ⟨w.heap.size,1,none⟩=some (.int .i64 sort):=by rw[World.cell?_alloc_at _ _ _ _ rfl];rfl
 have c2:(w.alloc (.cells #[.int .i64 op,.int .i64 sort,.string name,.string num,.int .i64 kids] 57)).cell? ⟨w.heap.size,2,none⟩=some (.string name):=by rw[World.cell?_alloc_at _ _ _ _ rfl];rfl
 have c3:(w.alloc (.cells #[.int .i64 op,.int .i64 sort,.string name,.string num,.int .i64 kids] 57)).cell? ⟨w.heap.size,3,none⟩=some (.string num):=by rw[World.cell?_alloc_at _ _ _ _ rfl];rfl
 have HG:Hid (nI ⟨op,sort,name,num,kids⟩=(decide (1≤op) && (decide (op≤20) && fdF ⟨op,sort,name,num,kids⟩))):=hid rfl;clear hbw
 by_cases e3:op=3
 · subst e3;have HD:Hid (nI ⟨3,sort,name,num,kids⟩=((sort==2 || sort==3) && (name.toList.isEmpty && (vN num && (sort==3 || iN num))))):=hid (by rw[HG.out];rfl);clear HG;cases hnm:name.toList.isEmpty
   · have HN:=hid (HD.out.trans (show _=false by simp[hnm]))
     go_enter func160,ntmps160
     go_wp2
     go_ret
     exact ⟨by rw[HN.out];rfl,by exact HB.out⟩
   · by_cases s2:sort=2
     · subst s2;cases hin:iN num
       · have HN:=hid (HD.out.trans (show _=false by simp[hnm,hin]))
         go_enter func160,ntmps160
         go_wp2_with fail
         generalize w.alloc _=w1 at *;generalize hS:w.heap.size=S at *;have HS:=hid hS;have hL1:S<w1.heap.size:=hl;clear hS;refine (kz num _ hs hin).mono ?_;rintro e w2 ⟨rfl,hb2⟩;have HB2:=hid (HB.out.trans (hb2.mono (aL hL1)));have hL2:=aC hL1 hb2.size;have e02:=(hb2.cell (p:=⟨S,0,none⟩) hL1).trans c0;have e12:=(hb2.cell (p:=⟨S,1,none⟩) hL1).trans c1;have e22:=(hb2.cell (p:=⟨S,2,none⟩) hL1).trans c2;have e32:=(hb2.cell (p:=⟨S,3,none⟩) hL1).trans c3;clear hb2 c0 c1 c2 c3
         go_wp2
         go_ret
         exact ⟨by rw[HN.out];rfl,by rw[HS.out];exact HB2.out⟩
       · have hv:=Bz hin;have HN:=hid (HD.out.trans (show _=true by simp[hnm,hin,hv]))
         go_enter func160,ntmps160
         go_wp2_with fail
         generalize w.alloc _=w1 at *;generalize hS:w.heap.size=S at *;have HS:=hid hS;have hL1:S<w1.heap.size:=hl;clear hS;refine (kz num _ hs hin).mono ?_;rintro e w2 ⟨rfl,hb2⟩;have HB2:=hid (HB.out.trans (hb2.mono (aL hL1)));have hL2:=aC hL1 hb2.size;have e02:=(hb2.cell (p:=⟨S,0,none⟩) hL1).trans c0;have e12:=(hb2.cell (p:=⟨S,1,none⟩) hL1).trans c1;have e22:=(hb2.cell (p:=⟨S,2,none⟩) hL1).trans c2;have e32:=(hb2.cell (p:=⟨S,3,none⟩) hL1).trans c3;clear hb2 c0 c1 c2 c3
         go_wp2
         go_ret
         exact ⟨by rw[HN.out];rfl,by rw[HS.out];exact HB2.out⟩
     · by_cases s3:sort=3
       · subst s3;cases hvn:vN num
         · have HN:=hid (HD.out.trans (show _=false by simp[hnm,hvn]))
           go_enter func160,ntmps160
           go_wp2_with fail
           generalize w.alloc _=w1 at *;generalize hS:w.heap.size=S at *;have HS:=hid hS;have hL1:S<w1.heap.size:=hl;clear hS;refine (rV num _ hs hvn).mono ?_;rintro e w2 ⟨rfl,hb2⟩;have HB2:=hid (HB.out.trans (hb2.mono (aL hL1)));have hL2:=aC hL1 hb2.size;have e02:=(hb2.cell (p:=⟨S,0,none⟩) hL1).trans c0;have e12:=(hb2.cell (p:=⟨S,1,none⟩) hL1).trans c1;have e22:=(hb2.cell (p:=⟨S,2,none⟩) hL1).trans c2;have e32:=(hb2.cell (p:=⟨S,3,none⟩) hL1).trans c3;clear hb2 c0 c1 c2 c3
           go_wp2
           go_ret
           exact ⟨by rw[HN.out];rfl,by rw[HS.out];exact HB2.out⟩
         · have HN:=hid (HD.out.trans (show _=true by simp[hnm,hvn]))
           go_enter func160,ntmps160
           go_wp2_with fail
           generalize w.alloc _=w1 at *;generalize hS:w.heap.size=S at *;have HS:=hid hS;have hL1:S<w1.heap.size:=hl;clear hS;refine (rV num _ hs hvn).mono ?_;rintro e w2 ⟨rfl,hb2⟩;have HB2:=hid (HB.out.trans (hb2.mono (aL hL1)));have hL2:=aC hL1 hb2.size;have e02:=(hb2.cell (p:=⟨S,0,none⟩) hL1).trans c0;have e12:=(hb2.cell (p:=⟨S,1,none⟩) hL1).trans c1;have e22:=(hb2.cell (p:=⟨S,2,none⟩) hL1).trans c2;have e32:=(hb2.cell (p:=⟨S,3,none⟩) hL1).trans c3;clear hb2 c0 c1 c2 c3
           go_wp2
           go_ret
           exact ⟨by rw[HN.out];rfl,by rw[HS.out];exact HB2.out⟩
       · have HN:=hid (HD.out.trans (show _=false by simp[s2,s3]))
         go_enter func160,ntmps160
         go_wp2
         go_ret
         exact ⟨by rw[HN.out];rfl,by exact HB.out⟩
 by_cases e4:op=4∨op=5
 · have HD:Hid (nI ⟨op,sort,name,num,kids⟩=(srF sort && (cZ name.toList && num.toList.isEmpty))):=hid (by rw[HG.out];unfold fdF;simp only;rw[aB e3,aF e4];rcases e4 with rfl | rfl <;> rfl);clear HG e3;cases hnu:num.toList.isEmpty
   · rcases e4 with rfl | rfl
     all_goals
      have HN:=hid (HD.out.trans (show _=false by simp[hnu]))
      go_enter func160,ntmps160
      go_wp2
      go_ret
      exact ⟨by rw[HN.out];rfl,by exact HB.out⟩
   · cases hnm:cZ name.toList
     · rcases e4 with rfl | rfl
       all_goals
        have HN:=hid (HD.out.trans (show _=false by simp[hnm,hnu]))
        go_enter func160,ntmps160
        go_wp2_with fail
        generalize w.alloc _=w1 at *;generalize hS:w.heap.size=S at *;have HS:=hid hS;have hL1:S<w1.heap.size:=hl;clear hS;refine (pT name _ hnm).mono ?_;rintro e w2 ⟨rfl,hb2⟩;have HB2:=hid (HB.out.trans (hb2.mono (aL hL1)));have hL2:=aC hL1 hb2.size;have e02:=(hb2.cell (p:=⟨S,0,none⟩) hL1).trans c0;have e12:=(hb2.cell (p:=⟨S,1,none⟩) hL1).trans c1;have e22:=(hb2.cell (p:=⟨S,2,none⟩) hL1).trans c2;have e32:=(hb2.cell (p:=⟨S,3,none⟩) hL1).trans c3;clear hb2 c0 c1 c2 c3
        go_wp2
        go_ret
        exact ⟨by rw[HN.out];rfl,by rw[HS.out];exact HB2.out⟩
     · cases hsr:srF sort
       · rcases e4 with rfl | rfl
         all_goals
          have HN:=hid (HD.out.trans (show _=false by simp[hnm,hnu,hsr]))
          go_enter func160,ntmps160
          go_wp2_with fail
          generalize w.alloc _=w1 at *;generalize hS:w.heap.size=S at *;have HS:=hid hS;have hL1:S<w1.heap.size:=hl;clear hS;refine (pT name _ hnm).mono ?_;rintro e w2 ⟨rfl,hb2⟩;have HB2:=hid (HB.out.trans (hb2.mono (aL hL1)));have hL2:=aC hL1 hb2.size;have e02:=(hb2.cell (p:=⟨S,0,none⟩) hL1).trans c0;have e12:=(hb2.cell (p:=⟨S,1,none⟩) hL1).trans c1;have e22:=(hb2.cell (p:=⟨S,2,none⟩) hL1).trans c2;have e32:=(hb2.cell (p:=⟨S,3,none⟩) hL1).trans c3;clear hb2 c0 c1 c2 c3
          go_wp2_with fail
          refine (rW sort _ hsr).mono ?_;rintro e w3 ⟨rfl,rfl⟩;have hL3:=hL2
          go_wp2
          go_ret
          exact ⟨by rw[HN.out];rfl,by rw[HS.out];exact HB2.out⟩
       · rcases e4 with rfl | rfl
         all_goals
          have HN:=hid (HD.out.trans (show _=true by simp[hnm,hnu,hsr]))
          go_enter func160,ntmps160
          go_wp2_with fail
          generalize w.alloc _=w1 at *;generalize hS:w.heap.size=S at *;have HS:=hid hS;have hL1:S<w1.heap.size:=hl;clear hS;refine (pT name _ hnm).mono ?_;rintro e w2 ⟨rfl,hb2⟩;have HB2:=hid (HB.out.trans (hb2.mono (aL hL1)));have hL2:=aC hL1 hb2.size;have e02:=(hb2.cell (p:=⟨S,0,none⟩) hL1).trans c0;have e12:=(hb2.cell (p:=⟨S,1,none⟩) hL1).trans c1;have e22:=(hb2.cell (p:=⟨S,2,none⟩) hL1).trans c2;have e32:=(hb2.cell (p:=⟨S,3,none⟩) hL1).trans c3;clear hb2 c0 c1 c2 c3
          go_wp2_with fail
          refine (rW sort _ hsr).mono ?_;rintro e w3 ⟨rfl,rfl⟩;have hL3:=hL2
          go_wp2
          go_ret
          exact ⟨by rw[HN.out];rfl,by rw[HS.out];exact HB2.out⟩
 by_cases e16:op=16∨op=17
 · have HD:Hid (nI ⟨op,sort,name,num,kids⟩=(sort==0 && (name.toList.isEmpty && (iN num && decide (0<sN num))))):=hid (by rw[HG.out];unfold fdF;simp only;rw[aB e3,aB e4,aF e16];rcases e16 with rfl | rfl <;> rfl);clear HG e3 e4
   by_cases s0:sort=0
   · subst s0;cases hnm:name.toList.isEmpty
     · rcases e16 with rfl | rfl
       all_goals
        have HN:=hid (HD.out.trans (show _=false by simp[hnm]))
        go_enter func160,ntmps160
        go_wp2
        go_ret
        exact ⟨by rw[HN.out];rfl,by exact HB.out⟩
     · cases hin:iN num
       · rcases e16 with rfl | rfl
         all_goals
          have HN:=hid (HD.out.trans (show _=false by simp[hnm,hin]))
          go_enter func160,ntmps160
          go_wp2_with fail
          generalize w.alloc _=w1 at *;generalize hS:w.heap.size=S at *;have HS:=hid hS;have hL1:S<w1.heap.size:=hl;clear hS;refine (kz num _ hs hin).mono ?_;rintro e w2 ⟨rfl,hb2⟩;have HB2:=hid (HB.out.trans (hb2.mono (aL hL1)));have hL2:=aC hL1 hb2.size;have e02:=(hb2.cell (p:=⟨S,0,none⟩) hL1).trans c0;have e12:=(hb2.cell (p:=⟨S,1,none⟩) hL1).trans c1;have e22:=(hb2.cell (p:=⟨S,2,none⟩) hL1).trans c2;have e32:=(hb2.cell (p:=⟨S,3,none⟩) hL1).trans c3;clear hb2 c0 c1 c2 c3
          go_wp2
          go_ret
          exact ⟨by rw[HN.out];rfl,by rw[HS.out];exact HB2.out⟩
       · rcases e16 with rfl | rfl
         all_goals
          have HN:=hid (HD.out.trans (show _=decide (0<sN num) by simp[hnm,hin]))
          go_enter func160,ntmps160
          go_wp2_with fail
          generalize w.alloc _=w1 at *;generalize hS:w.heap.size=S at *;have HS:=hid hS;have hL1:S<w1.heap.size:=hl;clear hS;refine (kz num _ hs hin).mono ?_;rintro e w2 ⟨rfl,hb2⟩;have HB2:=hid (HB.out.trans (hb2.mono (aL hL1)));have hL2:=aC hL1 hb2.size;have e02:=(hb2.cell (p:=⟨S,0,none⟩) hL1).trans c0;have e12:=(hb2.cell (p:=⟨S,1,none⟩) hL1).trans c1;have e22:=(hb2.cell (p:=⟨S,2,none⟩) hL1).trans c2;have e32:=(hb2.cell (p:=⟨S,3,none⟩) hL1).trans c3;clear hb2 c0 c1 c2 c3
          go_wp2_with fail
          refine (zR num _ hs).mono ?_;rintro e w3 ⟨rfl,hb3⟩;have HB3:=hid (HB2.out.trans (hb3.mono (aL hL2)));have hL3:=aC hL2 hb3.size;have e03:=(hb3.cell (p:=⟨S,0,none⟩) hL2).trans e02;have e13:=(hb3.cell (p:=⟨S,1,none⟩) hL2).trans e12;have e23:=(hb3.cell (p:=⟨S,2,none⟩) hL2).trans e22;have e33:=(hb3.cell (p:=⟨S,3,none⟩) hL2).trans e32;clear hb3 e02 e12 e22 e32
          go_wp2
          go_ret
          exact ⟨by rw[HN.out];rfl,by rw[HS.out];exact HB3.out⟩
   · rcases e16 with rfl | rfl
     all_goals
      have HN:=hid (HD.out.trans (show _=false by simp[s0]))
      go_enter func160,ntmps160
      go_wp2
      go_ret
      exact ⟨by rw[HN.out];rfl,by exact HB.out⟩
 have HD:Hid (nI ⟨op,sort,name,num,kids⟩=(decide (1≤op) && (decide (op≤20) && (sort==0 && (name.toList.isEmpty && num.toList.isEmpty))))):=hid (by rw[HG.out];unfold fdF;simp only;rw[aB e3,aB e4,aB e16]);clear HG;have g4:¬op=4:=by omega
 have g5:¬op=5:=by omega
 have g16:¬op=16:=by omega
 have g17:¬op=17:=by omega
 clear e4 e16
 by_cases h1:op<1
 · have hd:=aD (p:=1≤op) (by omega);have HN:=hid (HD.out.trans (show _=false by rw[hd];rfl))
   go_enter func160,ntmps160
   go_wp2
   go_ret
   exact ⟨by rw[HN.out];rfl,by exact HB.out⟩
 by_cases h2:20<op
 · have hd:=aD (p:=op≤20) (by omega);have HN:=hid (HD.out.trans (show _=false by rw[hd];simp))
   go_enter func160,ntmps160
   go_wp2
   go_ret
   exact ⟨by rw[HN.out];rfl,by exact HB.out⟩
 have d1:=aH (p:=1≤op) (by omega);have d2:=aH (p:=op≤20) (by omega);replace HD:Hid (nI ⟨op,sort,name,num,kids⟩=(sort==0 && (name.toList.isEmpty && num.toList.isEmpty))):=hid (by rw[HD.out,d1,d2];rfl);clear d1 d2
 by_cases s0:sort=0
 · subst s0;cases hnm:name.toList.isEmpty
   · have HN:=hid (HD.out.trans (show _=false by simp[hnm]))
     go_enter func160,ntmps160
     go_wp2
     go_ret
     exact ⟨by rw[HN.out];rfl,by exact HB.out⟩
   · cases hnu:num.toList.isEmpty
     · have HN:=hid (HD.out.trans (show _=false by simp[hnu]))
       go_enter func160,ntmps160
       go_wp2
       go_ret
       exact ⟨by rw[HN.out];rfl,by exact HB.out⟩
     · have HN:=hid (HD.out.trans (show _=true by simp[hnm,hnu]))
       go_enter func160,ntmps160
       go_wp2
       go_ret
       exact ⟨by rw[HN.out];rfl,by exact HB.out⟩
 · have HN:=hid (HD.out.trans (show _=false by simp[s0]))
   go_enter func160,ntmps160
   go_wp2
   go_ret
   exact ⟨by rw[HN.out];rfl,by exact HB.out⟩
end Go.Proofs.YtpkfnnkbfphfbaaGreatDoor.Se

/- Names. -/
import Derived.Below
import Derived.Test.YtapdbeaoakcjeaaGreatDoorRows
import Derived.WalkKit
import Derived.WalkSpells
import Derived.WalkLawsBesides
import Derived.Deep.QuietTactic
import Derived.BigQuiet
import Derived.Lib.Hide
set_option maxRecDepth 100000
set_option maxHeartbeats 40000000
open Go.Lib (hid)
section
open Go Go.RowKit
theorem aa:∀{α:Type _} (l:List α) (i:Nat) (a:α),l.toArray.setIfInBounds i a=(l.set i a).toArray:=@List.setIfInBounds_toArray
theorem aj:∀{α:Type _} {x:α} {xs:List α} {a:α},(x::xs).set 0 a=a::xs:=@List.set_cons_zero
theorem am:∀{α:Type _} {x:α} {xs:List α} {i:Nat} {a:α},(x::xs).set (i+1) a=x::xs.set i a:=@List.set_cons_succ
theorem ag:∀n:Nat,n≤n:=@Nat.le_refl
theorem ap:∀{n m k:Nat},n<m→m≤k→n<k:=@Nat.lt_of_lt_of_le
theorem aC:∀{n m k:Nat},n≤m→m≤k→n≤k:=@Nat.le_trans
theorem aI:∀{n m:Nat},n<m→n≤m:=@Nat.le_of_lt
theorem aE:∀n:Nat,0≤n:=@Nat.zero_le
theorem aq:∀{α:Type _} {l:List α} {i:Nat} (h:i<l.length),l[i]? =some l[i]:=@List.getElem?_eq_getElem
theorem au:∀{α:Type _} {a:α} {l:List α},(a::l).length=l.length+1:=@List.length_cons
theorem aw:∀{α:Type _} {l:List α} {i:Nat} {a:α},l.getD i a=l[i]?.getD a:=@List.getD_eq_getElem?_getD
theorem aA:∀{α:Type _} {l k:List α},(l++k).length=l.length+k.length:=@List.length_append
theorem aH:∀{α:Type _},([]:List α).length=0:=@List.length_nil
theorem aK:∀{α:Type _} {a:α},[a].length=1:=@List.length_singleton
theorem aJ:∀{α:Type _} {i:Nat} {l:List α},l.length≤i→l.take i=l:=@List.take_of_length_le
theorem aL:∀{α:Type _} {l:List α} {i:Nat} {a:α},(l.set i a).length=l.length:=@List.length_set
theorem aG:∀{α:Type _} {a b:α},some a=some b→a=b:=@Option.some.inj
theorem ah:∀(B:Nat) (w:World),Below B w w:=@Below.refl
theorem aB:∀(w:World) (a:Addr) (u:Value) (k:Nat) (_:k≠a.block),(w.setCell a u).heap[k]? =w.heap[k]? :=@Below.heap_setCell
end
/- Plain words about rows of words of 32 bits: no program. -/
namespace Nmx
noncomputable def BB:Nat:=(Classical.choice ⟨(⟨4294967296,rfl⟩:{ n:Nat // n=4294967296 })⟩).1
theorem aW:BB=4294967296:=(Classical.choice ⟨(⟨4294967296,rfl⟩:{ n:Nat // n=4294967296 })⟩).2
noncomputable def wv:List Nat→Nat
 | []=>0
 | x::l=>x+BB*wv l
def Ws (l:List Nat):Prop:=∀x∈l,x<BB
theorem cZ:wv []=0:=rfl
theorem dM (x:Nat) (l:List Nat):wv (x::l)=x+BB*wv l:=rfl
theorem jZ (a b:List Nat):wv (a++b)=wv a+BB ^ a.length*wv b:=by
 induction a with
 | nil=>simp[cZ]
 | cons x r ih=>
   rw[List.cons_append,dM,dM,ih,au,Nat.pow_succ,Nat.mul_add,Nat.add_assoc]
   congr 2
   rw[←Nat.mul_assoc,Nat.mul_comm BB]
theorem nY (x:Nat):wv [x]=x:=by simp[dM,cZ]
theorem lj (l:List Nat) (x:Nat):wv (l++[x])=wv l+BB ^ l.length*x:=by rw[jZ,nY]
theorem i9 (n:Nat):wv (List.replicate n 0)=0:=by
 induction n with
 | zero=>rfl
 | succ n ih=>rw[List.replicate_succ,dM,ih];simp
theorem bw:0<BB:=by rw[aW];omega
theorem xr (n:Nat):0<BB ^ n:=Nat.pow_pos bw
theorem Ws.cons {x:Nat} {l:List Nat} (hx:x<BB) (h:Ws l):Ws (x::l):=fun y hy=>by
 rw[List.mem_cons] at hy;rcases hy with rfl | hy
 · exact hx
 · exact h y hy
theorem Ws.nil:Ws []:=fun _ h=>by cases h
theorem Ws.append {a b:List Nat} (ha:Ws a) (hb:Ws b):Ws (a++b):=fun y hy=>by
 rw[List.mem_append] at hy;rcases hy with h | h
 · exact ha y h
 · exact hb y h
theorem Ws.left {a b:List Nat} (h:Ws (a++b)):Ws a:=fun y hy=>h y (List.mem_append_left _ hy)
theorem Ws.right {a b:List Nat} (h:Ws (a++b)):Ws b:=fun y hy=>h y (List.mem_append_right _ hy)
theorem Ws.take {l:List Nat} (h:Ws l) (n:Nat):Ws (l.take n):=fun y hy=>h y (List.mem_of_mem_take hy)
theorem Ws.drop {l:List Nat} (h:Ws l) (n:Nat):Ws (l.drop n):=fun y hy=>h y (List.mem_of_mem_drop hy)
theorem Ws.set {l:List Nat} (h:Ws l) (i:Nat) {x:Nat} (hx:x<BB):Ws (l.set i x):=fun y hy=>by
 rcases List.mem_or_eq_of_mem_set hy with h1 | h1
 · exact h y h1
 · rw[h1];exact hx
theorem Ws.zeros (n:Nat):Ws (List.replicate n 0):=fun y hy=>by rw[(List.mem_replicate.1 hy).2];exact bw
theorem Ws.get {l:List Nat} (h:Ws l) (i:Nat) (hi:i<l.length):l[i]<BB:=h _ (List.getElem_mem hi)
theorem eL (l:List Nat) (h:Ws l):wv l<BB ^ l.length:=by
 induction l with
 | nil=>simp[cZ]
 | cons x r ih=>
   have h1:=h x (by simp);have h2:=ih (fun y hy=>h y (by simp[hy]));rw[dM,au,Nat.pow_succ];have:BB*(wv r+1)≤BB*BB ^ r.length:=Nat.mul_le_mul_left _ h2;rw[Nat.mul_add,Nat.mul_one,Nat.mul_comm BB (BB ^ r.length)] at this
   omega
theorem yM (l:List Nat) (i x:Nat) (hi:i<l.length):wv (l.set i x)+BB ^ i*l[i]=wv l+BB ^ i*x:=by
 induction l generalizing i with
 | nil=>simp at hi
 | cons y r ih=>
   cases i with
   | zero=>simp only[aj,dM,List.getElem_cons_zero,Nat.pow_zero,Nat.one_mul];omega
   | succ i=>
     simp only[am,dM,List.getElem_cons_succ];have:=ih i (by simpa using hi);rw[Nat.pow_succ,Nat.mul_right_comm,Nat.mul_right_comm (BB ^ i) BB x,Nat.mul_comm _ BB,Nat.mul_comm _ BB];have h2:BB*(wv (r.set i x)+BB ^ i*r[i]'(by simpa using hi))=BB*(wv r+BB ^ i*x):=by rw[this]
     rw[Nat.mul_add,Nat.mul_add] at h2
     omega
theorem fY (l:List Nat) (i:Nat) (hi:i<l.length):wv (l.take (i+1))=wv (l.take i)+BB ^ i*l[i]:=by
 rw[List.take_succ_eq_append_getElem hi,lj,List.length_take,Nat.min_eq_left (by omega)]
theorem bK (l:List Nat) (i:Nat) (hi:l.length≤i):wv (l.take i)=wv l:=by rw[aJ hi]
theorem gO (l:List Nat) (i:Nat):wv l=wv (l.take i)+BB ^ (min i l.length)*wv (l.drop i):=by
 rw[←List.length_take,←jZ,List.take_append_drop]
theorem nZ (l:List Nat) (i:Nat) (hi:i<l.length):wv (l.drop i)=l[i]+BB*wv (l.drop (i+1)):=by
 rw[List.drop_eq_getElem_cons hi,dM]
def cJ (l:List Nat):List Nat:=(l.reverse.dropWhile (·==0)).reverse
theorem tJ:cJ []=[]:=rfl
theorem eM (l:List Nat):cJ (l++[0])=cJ l:=by simp[cJ]
theorem eN (l:List Nat) (x:Nat) (hx:x≠0):cJ (l++[x])=l++[x]:=by simp[cJ,hx]
def dS (l:List Nat):Prop:=Ws l∧∀x,l.getLast? =some x→x≠0
theorem fH {P:List Nat→Prop} (h0:P []) (hs:∀l a,P l→P (l++[a])) (l:List Nat):P l:=by
 have h:∀l:List Nat,P l.reverse:=by
  intro l
  induction l with
  | nil=>exact h0
  | cons a r ih=>rw[List.reverse_cons];exact hs _ _ ih
 have:=h l.reverse;rwa [List.reverse_reverse] at this
theorem fI (l:List Nat):wv (cJ l)=wv l:=by
 induction l using fH with
 | h0=>rfl
 | hs l a ih=>
   by_cases h:a=0
   · subst h;rw[eM,ih,lj];simp
   · rw[eN _ _ h]
theorem lJ (l:List Nat) (h:Ws l):dS (cJ l):=by
 induction l using fH with
 | h0=>exact ⟨Ws.nil,fun x hx=>by cases hx⟩
 | hs l a ih=>
   by_cases ha:a=0
   · subst ha;rw[eM];exact ih h.left
   · rw[eN _ _ ha];exact ⟨h,fun x hx=>by rw[List.getLast?_append] at hx;simp at hx;omega⟩
theorem fJ (l:List Nat):(cJ l).length≤l.length:=by
 induction l using fH with
 | h0=>simp[tJ]
 | hs l a ih=>
   by_cases ha:a=0
   · subst ha;rw[eM,aA];omega
   · rw[eN _ _ ha];exact ag _
theorem fZ (l:List Nat):cJ l=l.take (cJ l).length:=by
 induction l using fH with
 | h0=>rfl
 | hs l a ih=>
   by_cases ha:a=0
   · subst ha;rw[eM,List.take_append_of_le_length (fJ l)];exact ih
   · rw[eN _ _ ha,List.take_length]
theorem ja (l:List Nat) (h:dS l) (h0:l≠[]):BB ^ (l.length-1)≤wv l:=by
 induction l using fH with
 | h0=>exact absurd rfl h0
 | hs l a _=>
   have ha:=h.2 a (by simp);rw[lj,aA,aK,Nat.add_sub_cancel];have:BB ^ l.length*1≤BB ^ l.length*a:=Nat.mul_le_mul_left _ (by omega)
   omega
theorem eo (a b:List Nat) (ha:dS a) (hb:dS b) (h:a.length<b.length):wv a<wv b:=by
 have h1:=eL a ha.1;have h2:=ja b hb (fun e=>by subst e;simp at h);have h3:BB ^ a.length≤BB ^ (b.length-1):=Nat.pow_le_pow_right bw (by omega)
 omega
theorem tK (l:List Nat) (h:dS l) (h0:wv l=0):l=[]:=by
 apply Decidable.byContradiction;intro hne;have:=ja l h hne;have:=xr (l.length-1)
 omega
theorem yN (a b:List Nat) (hl:a.length=b.length) (ha:Ws a) (i:Nat) (hi:i<a.length) (he:a.drop (i+1)=b.drop (i+1)) (h:a[i]<b[i]'(by omega)):wv a<wv b:=by
 rw[gO a (i+1),gO b (i+1),he,hl,fY a i hi,fY b i (by omega)];have h1:=eL (a.take i) (ha.take i);rw[List.length_take,Nat.min_eq_left (by omega)] at h1;have:BB ^ i*(a[i]+1)≤BB ^ i*b[i]'(by omega):=Nat.mul_le_mul_left _ h;rw[Nat.mul_add,Nat.mul_one] at this
 omega
theorem ik (l:List Nat) (i x:Nat) (hi:i<l.length) (h0:l.getD i 0=0):wv (l.set i x)=wv l+BB ^ i*x:=by
 have:=yM l i x hi;have e:l[i]=0:=by rw[aw,aq hi] at h0;simpa using h0
 rw[e,Nat.mul_zero,Nat.add_zero] at this;exact this
theorem bj (l:List Nat) (i:Nat):wv (l.take (i+1))=wv (l.take i)+BB ^ i*l.getD i 0:=by
 by_cases hi:i<l.length
 · rw[fY l i hi,aw,aq hi];rfl
 · rw[aJ (by omega),aJ (by omega),aw,List.getElem?_eq_none (by omega)];simp
theorem Ws.getD {l:List Nat} (h:Ws l) (i:Nat):l.getD i 0<BB:=by
 by_cases hi:i<l.length
 · rw[aw,aq hi];exact h.get i hi
 · rw[aw,List.getElem?_eq_none (by omega)];exact bw
theorem cS (l:List Nat) (i x:Nat) (hi:i<l.length):(l.set i x).getD i 0=x:=by simp[List.getD_eq_getElem?_getD,hi]
theorem cD (l:List Nat) (i j x:Nat) (h:i≠j):(l.set i x).getD j 0=l.getD j 0:=by simp[List.getD_eq_getElem?_getD,List.getElem?_set_ne h]
theorem f5 (l:List Nat) (i:Nat) (hi:i<l.length):l.getD i 0=l[i]:=by rw[aw,aq hi];rfl
theorem jb (t:Nat):t % BB+BB*(t / BB)=t:=Nat.mod_add_div t BB
structure AddR (a b w:List Nat) (i c:Nat):Prop where
 len:w.length=a.length+1
 ws:Ws w
 zero:∀k,i≤k→w.getD k 0=0
 c1:c≤1
 val:wv w+BB ^ i*c=wv (a.take i)+wv (b.take i)
theorem AddR.start (a b:List Nat):AddR a b (List.replicate (a.length+1) 0) 0 0:=
 ⟨by simp,Ws.zeros _,fun k _=>by rw[aw,List.getElem?_replicate];split <;> rfl,by omega,by rw[i9];simp[cZ]⟩
theorem AddR.step {a b w:List Nat} {i c:Nat} (h:AddR a b w i c) (ha:Ws a) (hb:Ws b) (hi:i<a.length) (t:Nat) (ht:t=a.getD i 0+c+b.getD i 0):AddR a b (w.set i (t % BB)) (i+1) (t / BB):=by
 have h1:=ha.getD i;have h2:=hb.getD i;have h3:=h.c1;have h4:=jb t;have h5:=Nat.mod_lt t bw;refine ⟨by rw[aL];exact h.len,h.ws.set i h5,fun k hk=>by rw[cD _ _ _ _ (by omega)];exact h.zero k (by omega),?_,?_⟩
 · have:t / BB<2:=(Nat.div_lt_iff_lt_mul bw).2 (by omega)
   omega
 · rw[ik w i _ (by rw[h.len];omega) (h.zero i (ag _)),bj,bj,Nat.pow_succ,Nat.mul_assoc,Nat.add_assoc,←Nat.mul_add,h4,ht,Nat.mul_add,Nat.mul_add];have:=h.val
   omega
theorem AddR.done {a b w:List Nat} {c:Nat} (h:AddR a b w a.length c) (hl:b.length≤a.length):wv (w.set a.length c)=wv a+wv b∧Ws (w.set a.length c)∧(w.set a.length c).length=a.length+1:=by
 have h1:=h.val;rw[bK a _ (ag _),bK b _ hl] at h1;refine ⟨by rw[ik w _ _ (by rw[h.len];omega) (h.zero _ (ag _)),h1],h.ws.set _ ?_,by rw[aL,h.len]⟩;have:=h.c1;rw[aW];omega
structure SubR (a b w:List Nat) (i c:Nat):Prop where
 len:w.length=a.length
 ws:Ws w
 zero:∀k,i≤k→w.getD k 0=0
 c1:c≤1
 val:wv w+wv (b.take i)=wv (a.take i)+BB ^ i*c
theorem SubR.start (a b:List Nat):SubR a b (List.replicate a.length 0) 0 0:=
 ⟨by simp,Ws.zeros _,fun k _=>by rw[aw,List.getElem?_replicate];split <;> rfl,by omega,by rw[i9];simp[cZ]⟩
theorem SubR.step {a b w:List Nat} {i c:Nat} (h:SubR a b w i c) (hi:i<a.length) (r c':Nat) (hr:r<BB) (hc:c'≤1) (he:r+b.getD i 0+c=a.getD i 0+BB*c'):SubR a b (w.set i r) (i+1) c':=by
 refine ⟨by rw[aL];exact h.len,h.ws.set i hr,fun k hk=>by rw[cD _ _ _ _ (by omega)];exact h.zero k (by omega),hc,?_⟩;rw[ik w i _ (by rw[h.len];omega) (h.zero i (ag _)),bj,bj,Nat.pow_succ,Nat.mul_assoc];have h1:=h.val;have h2:BB ^ i*(r+b.getD i 0+c)=BB ^ i*(a.getD i 0+BB*c'):=by rw[he]
 rw[Nat.mul_add,Nat.mul_add,Nat.mul_add] at h2
 omega
theorem SubR.done {a b w:List Nat} {c:Nat} (h:SubR a b w a.length c) (hl:b.length≤a.length) (hle:wv b≤wv a):wv w=wv a-wv b∧c=0:=by
 have h1:=h.val;rw[bK a _ (ag _),bK b _ hl] at h1;have h2:=eL w h.ws;rw[h.len] at h2;have h3:=h.c1
 have h4:c=0:=by
  apply Decidable.byContradiction;intro hc;have:c=1:=by omega
  subst this
  omega
 subst h4;exact ⟨by omega,rfl⟩
theorem jc (x y z c:Nat) (hx:x<BB) (hy:y<BB) (hz:z<BB) (hc:c<BB):x*y+z+c<BB*BB:=by
 have key:∀b:Nat,x<b→y<b→z<b→c<b→x*y+z+c<b*b:=by
  intro b h1 h2 h3 h4;obtain ⟨k,rfl⟩:∃k,b=k+1:=⟨b-1,by omega⟩
  have h5:x*y≤k*k:=Nat.mul_le_mul (by omega) (by omega);have h6:(k+1)*(k+1)=k*k+2*k+1:=by grind
  omega
 exact key BB hx hy hz hc
structure DivR (a q:List Nat) (b i r:Nat):Prop where
 len:q.length=a.length
 ws:Ws q
 zero:∀k,k<i→q.getD k 0=0
 r1:r<b
 val:wv (q.drop i)*b+r=wv (a.drop i)
theorem DivR.start (a:List Nat) (b:Nat) (hb:0<b):DivR a (List.replicate a.length 0) b a.length 0:=
 ⟨by simp,Ws.zeros _,fun k _=>by rw[aw,List.getElem?_replicate];split <;> rfl,hb,by simp[cZ]⟩
theorem cM (l:List Nat) (i:Nat) (hi:i<l.length):wv (l.drop i)=l.getD i 0+BB*wv (l.drop (i+1)):=by rw[nZ l i hi,f5 l i hi]
theorem DivR.step {a q:List Nat} {b i r:Nat} (h:DivR a q b (i+1) r) (ha:Ws a) (hi:i<a.length) (t:Nat) (ht:t=r*BB+a.getD i 0):DivR a (q.set i (t / b)) b i (t % b)∧t / b<BB:=by
 have h1:=ha.getD i;have h2:=h.r1;have hb0:0<b:=by omega
 have h3:t<b*BB:=by
  have:(r+1)*BB≤b*BB:=Nat.mul_le_mul_right _ h2;rw[Nat.add_mul,Nat.one_mul] at this
  omega
 have h4:t / b<BB:=(Nat.div_lt_iff_lt_mul hb0).2 (by rw[Nat.mul_comm];exact h3);refine ⟨⟨by rw[aL];exact h.len,h.ws.set _ h4,fun k hk=>by rw[cD _ _ _ _ (by omega)];exact h.zero k (by omega),Nat.mod_lt _ hb0,?_⟩,h4⟩;have hq:i<q.length:=by rw[h.len];exact hi
 rw[cM _ i (by rw[aL];exact hq),cS q i _ hq,List.drop_set_of_lt (by omega),cM a i hi];have h5:=Nat.mod_add_div t b;have h6:=h.val;have h7:BB*(wv (q.drop (i+1))*b+r)=BB*wv (a.drop (i+1)):=by rw[h6]
 rw[Nat.mul_add] at h7;rw[Nat.add_mul,Nat.mul_assoc,Nat.mul_comm (t / b) b,←h7];have:r*BB=BB*r:=Nat.mul_comm _ _
 omega
theorem DivR.done {a q:List Nat} {b r:Nat} (h:DivR a q b 0 r):wv q=wv a / b∧r=wv a % b:=by
 have h1:=h.val;rw[List.drop_zero,List.drop_zero] at h1;have h2:=h.r1;rw[←h1];have h0:0<b:=by omega
 refine ⟨?_,?_⟩
 · rw[Nat.mul_comm,Nat.mul_add_div h0,Nat.div_eq_of_lt h2,Nat.add_zero]
 · rw[Nat.mul_comm,Nat.mul_add_mod,Nat.mod_eq_of_lt h2]
structure Lead (b d1 d2 P D0 D top u2 U0 U:Nat):Prop where
 D_eq:D=(d1*b+d2)*P+D0
 D0_lt:D0<P
 U_eq:U=(top*b+u2)*P+U0
 U0_lt:U0<P
 d2_lt:d2<b
 u2_lt:u2<b
 d1_lt:d1<b
 half:b≤2*d1
 big:2≤b
 less:U<b*D
theorem Lead.low {b d1 d2 P D0 D top u2 U0 U:Nat} (h:Lead b d1 d2 P D0 D top u2 U0 U):d1*b*P≤D∧D<(d1*b+b)*P∧top*b*P≤U∧U<(top*b+b)*P:=by
 have h1:=h.D_eq;have h2:=h.U_eq;have h3:=h.D0_lt;have h4:=h.U0_lt;have e1:(d2+1)*P≤b*P:=Nat.mul_le_mul_right _ h.d2_lt;have e2:(u2+1)*P≤b*P:=Nat.mul_le_mul_right _ h.u2_lt;rw[Nat.add_mul,Nat.one_mul] at e1 e2;rw[Nat.add_mul] at h1 h2;rw[Nat.add_mul,Nat.add_mul];exact ⟨by omega,by omega,by omega,by omega⟩
theorem Lead.top_lt {b d1 d2 P D0 D top u2 U0 U:Nat} (h:Lead b d1 d2 P D0 D top u2 U0 U):top<b*d1+b:=by
 obtain ⟨_,h2,h3,_⟩:=h.low;have h5:=h.less;have h6:b*D≤b*((d1*b+b)*P):=Nat.mul_le_mul_left _ (aI h2);have h7:top*b*P<b*((d1*b+b)*P):=by omega
 have e:b*((d1*b+b)*P)=(b*d1+b)*(b*P):=by grind
 rw[e,Nat.mul_assoc] at h7;exact Nat.lt_of_mul_lt_mul_right h7
theorem Lead.start {b d1 d2 P D0 D top u2 U0 U:Nat} (h:Lead b d1 d2 P D0 D top u2 U0 U):U<(top / d1+1)*D∧top / d1≤b+1∧top / d1*d1+top % d1=top∧top % d1<d1:=by
 obtain ⟨h1,h2,h3,h4⟩:=h.low;have hd:0<d1:=by have:=h.half;have:=h.big;omega
 have h5:=Nat.div_add_mod top d1;have h6:=Nat.mod_lt top hd;have h7:=h.top_lt;refine ⟨?_,?_,by rw[Nat.mul_comm];exact h5,h6⟩
 · have e1:top+1≤(top / d1+1)*d1:=by rw[Nat.add_mul,Nat.mul_comm (top / d1)];omega
   have e2:(top+1)*(b*P)≤(top / d1+1)*d1*(b*P):=Nat.mul_le_mul_right _ e1;have e3:(top / d1+1)*(d1*b*P)≤(top / d1+1)*D:=Nat.mul_le_mul_left _ h1;have e4:(top / d1+1)*d1*(b*P)=(top / d1+1)*(d1*b*P):=by grind
   have e5:(top+1)*(b*P)=(top*b+b)*P:=by grind
   omega
 · have e1:top<(b+2)*d1:=by
     have:=h.half;rw[Nat.add_mul];omega
   have:=(Nat.div_lt_iff_lt_mul hd).2 e1
   omega
theorem Lead.step {b d1 d2 P D0 D top u2 U0 U q r:Nat} (h:Lead b d1 d2 P D0 D top u2 U0 U) (he:q*d1+r=top) (hc:b≤q∨r*b+u2<q*d2):U<q*D∧0<q:=by
 have hb:=h.big;rcases hc with hc | hc
 · refine ⟨ap h.less (Nat.mul_le_mul_right _ hc),by omega⟩
 · refine ⟨?_,?_⟩
   · have h1:q*D=(q*d1*b+q*d2)*P+q*D0:=by rw[h.D_eq];grind
     have h2:(q*d1*b+(r*b+u2+1))*P≤(q*d1*b+q*d2)*P:=Nat.mul_le_mul_right _ (by omega);have h3:(q*d1*b+(r*b+u2+1))*P=(top*b+u2)*P+P:=by rw[←he];grind
     have h4:=h.U_eq;have h5:=h.U0_lt
     omega
   · rcases Nat.eq_zero_or_pos q with h0 | h0
     · subst h0;simp at hc
     · exact h0
theorem Lead.exit1 {b d1 d2 P D0 D top u2 U0 U q r:Nat} (h:Lead b d1 d2 P D0 D top u2 U0 U) (he:q*d1+r=top) (hq:q<b) (hc:q*d2≤r*b+u2):q*D≤U+D:=by
 have h1:q*D=(q*d1*b+q*d2)*P+q*D0:=by rw[h.D_eq];grind
 have h2:(q*d1*b+q*d2)*P≤(q*d1*b+(r*b+u2))*P:=Nat.mul_le_mul_right _ (by omega);have h3:(q*d1*b+(r*b+u2))*P=(top*b+u2)*P:=by rw[←he];grind
 have h4:=h.U_eq;have h5:q*D0≤b*P:=Nat.mul_le_mul (by omega) (aI h.D0_lt);have h6:1*(b*P)≤d1*(b*P):=Nat.mul_le_mul_right _ (by have:=h.half;have:=h.big;omega);rw[←Nat.mul_assoc d1] at h6;have h7:=h.low.1
 omega
theorem Lead.exit2 {b d1 d2 P D0 D top u2 U0 U q r:Nat} (h:Lead b d1 d2 P D0 D top u2 U0 U) (he:q*d1+r=top) (hq:q≤b) (hr:b≤r):q*D≤U:=by
 obtain ⟨h1,h2,h3,h4⟩:=h.low;have e1:q*D≤q*((d1*b+b)*P):=Nat.mul_le_mul_left _ (aI h2);have e2:q*((d1*b+b)*P)=(q*d1+q)*(b*P):=by grind
 have e3:(q*d1+q)*(b*P)≤top*(b*P):=Nat.mul_le_mul_right _ (by omega);rw[←Nat.mul_assoc top] at e3
 omega
theorem mX {D U q:Nat} (h1:U<(q+1)*D) (h2:q*D≤U+D):(q*D≤U∧U / D=q∧U % D=U-q*D)∨(U<q*D∧0<q∧U / D=q-1∧U % D=U+D-q*D):=by
 have hD:0<D:=by
  rcases Nat.eq_zero_or_pos D with h | h
  · subst h;simp at h1
  · exact h
 by_cases hle:q*D≤U
 · left
   rw[Nat.add_mul,Nat.one_mul] at h1;have e:U / D=q:=Nat.div_eq_of_lt_le hle (by rw[Nat.add_mul,Nat.one_mul];omega);refine ⟨hle,e,?_⟩;have:=Nat.div_add_mod U D;rw[e,Nat.mul_comm] at this
   omega
 · right
   have hq:0<q:=by
    rcases Nat.eq_zero_or_pos q with h | h
    · subst h;simp at hle
    · exact h
   obtain ⟨p,rfl⟩:∃p,q=p+1:=⟨q-1,by omega⟩
   rw[Nat.add_mul,Nat.one_mul] at h2 hle;have e:U / D=p:=Nat.div_eq_of_lt_le (by omega) (by rw[Nat.add_mul,Nat.one_mul];omega);refine ⟨by rw[Nat.add_mul,Nat.one_mul];omega,by omega,by rw[e];rfl,?_⟩;have:=Nat.div_add_mod U D;rw[e,Nat.mul_comm] at this;rw[Nat.add_mul,Nat.one_mul]
   omega
structure SubMulR (u d u':List Nat) (q i c k:Nat):Prop where
 len:u'.length=u.length
 ws:Ws u'
 rest:∀j,i≤j→u'.getD j 0=u.getD j 0
 c1:c<BB
 k1:k≤1
 val:wv (u'.take i)+q*wv (d.take i)=wv (u.take i)+BB ^ i*(c+k)
theorem SubMulR.start (u d:List Nat) (q:Nat) (hu:Ws u):SubMulR u d u q 0 0 0:=⟨rfl,hu,fun _ _=>rfl,bw,by omega,by simp[cZ]⟩
theorem gP (l:List Nat) (i x:Nat) (hi:i<l.length):wv ((l.set i x).take (i+1))=wv (l.take i)+BB ^ i*x:=by
 rw[bj,cS l i x hi,List.take_set,List.set_eq_of_length_le (by rw[List.length_take];omega)]
theorem SubMulR.step {u d u':List Nat} {q i c k:Nat} (h:SubMulR u d u' q i c k) (hd:Ws d) (hq:q<BB) (hi:i<d.length) (hl:d.length<u.length) (p:Nat) (hp:p=q*d.getD i 0+c) (r k':Nat) (hr:r<BB) (hk:k'≤1)
    (he:r+p % BB+k=u.getD i 0+BB*k'):SubMulR u d (u'.set i r) q (i+1) (p / BB) k'∧p<BB*BB:=by
 have h1:=hd.getD i;have h2:=jc q (d.getD i 0) 0 c hq h1 bw h.c1;rw[Nat.add_zero,←hp] at h2;refine ⟨⟨by rw[aL];exact h.len,h.ws.set _ hr,fun j hj=>by rw[cD _ _ _ _ (by omega)];exact h.rest j (by omega),(Nat.div_lt_iff_lt_mul bw).2 h2,hk,?_⟩,h2⟩;rw[gP _ _ _ (by rw[h.len];omega),bj d,bj u,Nat.pow_succ,Nat.mul_add q,Nat.mul_assoc];have h3:=h.val;have h4:=jb p;have e1:BB ^ i*(r+p % BB+k)=BB ^ i*(u.getD i 0+BB*k'):=by rw[he]
 have e2:BB ^ i*(p % BB+BB*(p / BB))=BB ^ i*(q*d.getD i 0+c):=by rw[h4,hp]
 have e3:q*(BB ^ i*d.getD i 0)=BB ^ i*(q*d.getD i 0):=by grind
 simp only[Nat.mul_add] at *
 omega
theorem SubMulR.last {u d u':List Nat} {q c k:Nat} (h:SubMulR u d u' q d.length c k) (hl:u.length=d.length+1):
    wv (u'.take d.length)+q*wv d+BB ^ d.length*u.getD d.length 0=wv u+BB ^ d.length*(c+k):=by
 have h1:=h.val;rw[bK d _ (ag _)] at h1;have h2:=bj u d.length;rw[bK u _ (by omega)] at h2
 omega
structure BackR (u d u':List Nat) (i c:Nat):Prop where
 len:u'.length=u.length
 ws:Ws u'
 rest:∀j,i≤j→u'.getD j 0=u.getD j 0
 c1:c≤1
 val:wv (u'.take i)+BB ^ i*c=wv (u.take i)+wv (d.take i)
theorem BackR.start (u d:List Nat) (hu:Ws u):BackR u d u 0 0:=⟨rfl,hu,fun _ _=>rfl,by omega,by simp[cZ]⟩
theorem BackR.step {u d u':List Nat} {i c:Nat} (h:BackR u d u' i c) (hu:Ws u) (hd:Ws d) (hi:i<d.length) (hl:d.length<u.length) (s:Nat) (hs:s=u.getD i 0+d.getD i 0+c):BackR u d (u'.set i (s % BB)) (i+1) (s / BB):=by
 have h1:=hu.getD i;have h2:=hd.getD i;have h3:=h.c1;have h4:=jb s;refine ⟨by rw[aL];exact h.len,h.ws.set _ (Nat.mod_lt _ bw),fun j hj=>by rw[cD _ _ _ _ (by omega)];exact h.rest j (by omega),?_,?_⟩
 · have:s / BB<2:=(Nat.div_lt_iff_lt_mul bw).2 (by omega)
   omega
 · rw[gP _ _ _ (by rw[h.len];omega),bj d,bj u,Nat.pow_succ,Nat.mul_assoc];have h5:=h.val;have e1:BB ^ i*(s % BB+BB*(s / BB))=BB ^ i*(u.getD i 0+d.getD i 0+c):=by rw[h4,hs]
   simp only[Nat.mul_add] at *
   omega
def dg (d:Nat):UInt8:=UInt8.ofNat (48+d)
def isD (c:UInt8):Bool:=decide (48≤c.toNat) && decide (c.toNat≤57)
def aP (n:Nat):List UInt8:=if _h:n<10 then [dg n] else aP (n / 10)++[dg (n % 10)]
termination_by n
decreasing_by omega
def dv (l:List UInt8):Nat:=l.foldl (fun a c=>10*a+(c.toNat-48)) 0
theorem bW {c:UInt8}:isD c=true ↔ 48≤c.toNat∧c.toNat≤57:=by simp[isD]
theorem bR {n:Nat} (h:n<10):aP n=[dg n]:=by rw[aP,dif_pos h]
theorem eO {n:Nat} (h:¬n<10):aP n=aP (n / 10)++[dg (n % 10)]:=by rw[aP,dif_neg h]
theorem ec (n:Nat):aP n≠[]:=by
 by_cases h:n<10
 · rw[bR h];simp
 · rw[eO h];simp
theorem bT {d:Nat} (h:d<10):(dg d).toNat=48+d:=by
 unfold dg;rw[UInt8.toNat_ofNat'];omega
theorem lK {d:Nat} (h:d<10):isD (dg d)=true:=by rw[bW,bT h];omega
theorem yx {c:UInt8} (h:isD c=true):dg (c.toNat-48)=c:=by
 rw[bW] at h;apply UInt8.toNat_inj.1;rw[bT (by omega)];omega
theorem bf (n:Nat):(aP n).all isD=true:=by
 induction n using Nat.strongRecOn with
 | _ n ih=>
   by_cases h:n<10
   · rw[bR h];simp only[List.all_cons,List.all_nil,Bool.and_true];exact lK h
   · rw[eO h,List.all_append,ih (n / 10) (by omega)];simp only[List.all_cons,List.all_nil,Bool.and_true,Bool.true_and];exact lK (Nat.mod_lt _ (by omega))
theorem il (n:Nat) (h:n≠0):(aP n).headD 0≠48:=by
 induction n using Nat.strongRecOn with
 | _ n ih=>
   by_cases h10:n<10
   · rw[bR h10,List.headD_cons];intro e;have:=congrArg UInt8.toNat e;rw[bT h10] at this;have h48:(48:UInt8).toNat=48:=rfl
     omega
   · have:=ih (n / 10) (by omega) (by omega);rw[eO h10]
     match hd:aP (n / 10),ec (n / 10) with
     | c::r,_=>rw[hd] at this;exact this
theorem sy {α:Type} {P:List α→Prop} (h0:P []) (hs:∀l a,P l→P (l++[a])) (l:List α):P l:=by
 have h:∀l:List α,P l.reverse:=by
  intro l
  induction l with
  | nil=>exact h0
  | cons a r ih=>rw[List.reverse_cons];exact hs _ _ ih
 have:=h l.reverse;rwa [List.reverse_reverse] at this
theorem fw:dv []=0:=rfl
theorem f6 (l:List UInt8) (c:UInt8):dv (l++[c])=10*dv l+(c.toNat-48):=by simp[dv,List.foldl_append]
theorem uZ (c:UInt8):dv [c]=c.toNat-48:=by simp[dv]
theorem im (a b:List UInt8):dv (a++b)=dv a*10 ^ b.length+dv b:=by
 induction b using sy with
 | h0=>simp[fw]
 | hs b c ih=>
   rw[←List.append_assoc,f6,ih,f6,aA,aK,Nat.pow_succ];generalize 10 ^ b.length=p
   grind
theorem fe (c:UInt8) (l:List UInt8):dv (c::l)=(c.toNat-48)*10 ^ l.length+dv l:=by
 have:=im [c] l;rw[uZ] at this;exact this
theorem jd (l:List UInt8) (h:l.all isD=true):dv l<10 ^ l.length:=by
 induction l with
 | nil=>simp[fw]
 | cons c l ih=>
   rw[List.all_cons,Bool.and_eq_true] at h;have h1:=ih h.2;have h2:=bW.1 h.1;rw[fe,au,Nat.pow_succ];have:(c.toNat-48)*10 ^ l.length≤9*10 ^ l.length:=Nat.mul_le_mul_right _ (by omega)
   omega
theorem bX (n:Nat):dv (aP n)=n:=by
 induction n using Nat.strongRecOn with
 | _ n ih=>
   by_cases h:n<10
   · rw[bR h,uZ,bT h];omega
   · rw[eO h,f6,ih (n / 10) (by omega),bT (Nat.mod_lt _ (by omega))];omega
theorem je {a b:Nat} (h:aP a=aP b):a=b:=by rw[←bX a,h,bX]
def sA (l:List UInt8):Prop:=l.all isD=true∧l≠[]∧(l=[48]∨l.headD 0≠48)
theorem qX (n:Nat):sA (aP n):=by
 refine ⟨bf n,ec n,?_⟩
 by_cases h:n=0
 · subst h;left;rw[bR (by omega)];rfl
 · exact .inr (il n h)
theorem qY {l:List UInt8} (h:l.all isD=true) (h0:l≠[]) (h1:l.headD 0≠48):10 ^ (l.length-1)≤dv l:=by
 match l,h0 with
 | c::r,_=>
   rw[List.all_cons,Bool.and_eq_true] at h;have h2:=bW.1 h.1;have h3:c.toNat≠48:=fun e=>h1 (UInt8.toNat_inj.1 e)
   rw[fe,au,Nat.add_sub_cancel];have:1*10 ^ r.length≤(c.toNat-48)*10 ^ r.length:=Nat.mul_le_mul_right _ (by omega)
   omega
theorem jg {l:List UInt8} (h:sA l):aP (dv l)=l:=by
 induction l using sy with
 | h0=>exact absurd rfl h.2.1
 | hs i c ih=>
   obtain ⟨h1,_,h3⟩:=h;rw[List.all_append,Bool.and_eq_true] at h1;have hc:isD c=true:=by simpa using h1.2
   have hc':=bW.1 hc;rw[f6]
   by_cases hi:i=[]
   · subst hi;rw[fw,bR (by omega),show 10*0+(c.toNat-48)=c.toNat-48 by omega,yx hc];rfl
   · have hh:i.headD 0≠48:=by
       rcases h3 with h3 | h3
       · exfalso
         have:=congrArg List.length h3
         simp at this
         exact hi this
       · match i,hi with
         | a::r,_=>exact h3
     have hp:=qY h1.1 hi hh;have hp1:0<10 ^ (i.length-1):=Nat.pow_pos (by omega);rw[eO (by omega),show (10*dv i+(c.toNat-48)) / 10=dv i by omega,ih ⟨h1.1,hi,.inr hh⟩,show (10*dv i+(c.toNat-48)) % 10=c.toNat-48 by omega,yx hc]
theorem jh (n:Nat) (h:n≠0):10 ^ ((aP n).length-1)≤n∧n<10 ^ (aP n).length:=by
 have h1:=qY (bf n) (ec n) (il n h);have h2:=jd _ (bf n);rw[bX] at h1 h2;exact ⟨h1,h2⟩
theorem dD {n k:Nat} (hk:0<k) (h:n<10 ^ k):(aP n).length≤k:=by
 by_cases h0:n=0
 · subst h0;rw[bR (by omega)];simp;omega
 · have h1:=(jh n h0).1;have h2:10 ^ ((aP n).length-1)<10 ^ k:=by omega
   have:=(Nat.pow_lt_pow_iff_right (by omega:1<10)).1 h2
   omega
theorem dn (n:Nat):0<(aP n).length:=List.length_pos_iff.2 (ec n)
def bU:List UInt8→List UInt8
 | []=>[]
 | [c]=>[c]
 | c::d::r=>if c=48 then bU (d::r) else c::d::r
theorem u5 (l:List UInt8):dv (bU l)=dv l:=by
 induction l with
 | nil=>rfl
 | cons c r ih=>
   match r with
   | []=>rfl
   | d::r=>
     unfold bU
     split
     · rename_i h;subst h;rw[ih,fe 48];simp
     · rfl
theorem pj (l:List UInt8) (h:l.all isD=true) (h0:l≠[]):sA (bU l):=by
 induction l with
 | nil=>exact absurd rfl h0
 | cons c r ih=>
   match r with
   | []=>
     unfold bU;refine ⟨h,h0,?_⟩
     by_cases hc:c=48
     · subst hc;exact .inl rfl
     · exact .inr hc
   | d::r=>
     unfold bU
     split
     · rw[List.all_cons,Bool.and_eq_true] at h;exact ih h.2 (by simp)
     · rename_i hc;exact ⟨h,h0,.inr hc⟩
theorem dV (l:List UInt8) (h:l.all isD=true) (h0:l≠[]):bU l=aP (dv l):=by
 rw[←jg (pj l h h0),u5]
theorem lL (l:List UInt8) (h:sA l):bU l=l:=by rw[dV l h.1 h.2.1,jg h]
def lo (l:List UInt8) (i:Nat):Nat:=dv (l.drop (l.length-i))
def di (l:List UInt8) (i:Nat):Nat:=if h:i<l.length then (l[l.length-1-i]'(by omega)).toNat-48 else 0
theorem lm (l:List UInt8):lo l 0=0:=by simp[lo,fw]
theorem oa (l:List UInt8) (i:Nat) (h:l.length≤i):lo l i=dv l:=by
 unfold lo;rw[show l.length-i=0 by omega];rfl
theorem oc (l:List UInt8) (i:Nat):lo l (i+1)=di l i*10 ^ i+lo l i:=by
 unfold lo di
 by_cases h:i<l.length
 · rw[dif_pos h,show l.length-i=l.length-(i+1)+1 by omega,List.drop_eq_getElem_cons (by omega),fe];rw[List.length_drop,show l.length-(l.length-(i+1)+1)=i by omega];have e:l.length-(i+1)=l.length-1-i:=by omega
   simp only[e]
 · rw[dif_neg h,show l.length-(i+1)=0 by omega,show l.length-i=0 by omega];simp
theorem yy (l:List UInt8) (i:Nat) (hi:i<l.length):di l i=(l[l.length-1-i]'(by omega)).toNat-48:=by unfold di;rw[dif_pos hi]
theorem yO (l:List UInt8) (i:Nat) (hi:¬i<l.length):di l i=0:=by unfold di;rw[dif_neg hi]
theorem u6 (a b:List UInt8) (hl:a.length=b.length) (ha:a.all isD=true) (hb:b.all isD=true):a<b ↔ dv a<dv b:=by
 induction a generalizing b with
 | nil=>
   match b,hl with
   | [],_=>simp
 | cons c r ih=>
   match b,hl with
   | d::s,hl=>
     rw[List.all_cons,Bool.and_eq_true] at ha hb;rw[au,au] at hl;have h1:=bW.1 ha.1;have h2:=bW.1 hb.1;have h3:=jd r ha.2;have h4:=jd s hb.2;have hl':r.length=s.length:=by omega
     have hih:=ih s hl' ha.2 hb.2;rw[List.cons_lt_cons_iff,fe,fe,hih,hl'];rw[hl'] at h3;generalize 10 ^ s.length=p at *;rw[UInt8.lt_iff_toNat_lt]
     constructor
     · rintro (h | ⟨rfl,h⟩)
       · have:(c.toNat-48+1)*p≤(d.toNat-48)*p:=Nat.mul_le_mul_right _ (by omega);rw[Nat.add_mul] at this
         omega
       · omega
     · intro h
       by_cases e:c.toNat=d.toNat
       · right
         have:c=d:=UInt8.toNat_inj.1 e;subst this;exact ⟨rfl,by omega⟩
       · left
         by_cases g:c.toNat<d.toNat
         · exact g
         · exfalso
           have:(d.toNat-48+1)*p≤(c.toNat-48)*p:=Nat.mul_le_mul_right _ (by omega);rw[Nat.add_mul] at this
           omega
theorem lM {m n:Nat} (h:(aP m).length<(aP n).length):m<n:=by
 have h1:=jd _ (bf m);rw[bX] at h1
 by_cases hn:n=0
 · subst hn;have:=dn m;rw[bR (n:=0) (by omega)] at h;simp only[aK] at h
   omega
 · have h2:=(jh n hn).1;have h3:10 ^ (aP m).length≤10 ^ ((aP n).length-1):=Nat.pow_le_pow_right (by omega) (by omega)
   omega
theorem yP (m n:Nat):(decide ((aP m).length<(aP n).length) || (decide ((aP m).length=(aP n).length) && decide (aP m<aP n)))=decide (m<n):=by
 rw[Bool.eq_iff_iff];simp only[Bool.or_eq_true,Bool.and_eq_true,decide_eq_true_eq]
 have hlex:(aP m).length=(aP n).length→(aP m<aP n ↔ m<n):=fun hl=>by
  have:=u6 _ _ hl (bf m) (bf n);rwa [bX,bX] at this
 constructor
 · rintro (h | ⟨h1,h2⟩)
   · exact lM h
   · exact (hlex h1).1 h2
 · intro h
   by_cases h1:(aP m).length<(aP n).length
   · exact .inl h1
   · by_cases h2:(aP m).length=(aP n).length
     · exact .inr ⟨h2,(hlex h2).2 h⟩
     · have:=lM (m:=n) (n:=m) (by omega)
       omega
def bN (z:Int):List UInt8:=if z<0 then 45::aP z.natAbs else aP z.natAbs
def bE (q:Rat):List UInt8:=bN q.num++(if q.den=1 then [] else 47::aP q.den)
def sgB (l:List UInt8):Bool:=l.head? ==some 45
def bJ (l:List UInt8):List UInt8:=if sgB l then l.tail else l
def sgn (b:Bool) (n:Nat):Int:=if b then -(n:Int) else n
def fK (l:List UInt8):Option Int:=if bJ l=[]∨(bJ l).all isD=false then none else some (sgn (sgB l) (dv (bJ l)))
def aY (l:List UInt8):Option Int:=if bJ l=[]∨((bJ l).headD 0=48∧l≠[48]) then none else fK l
theorem mY (n:Nat):∃c r,aP n=c::r∧isD c=true:=by
 have h1:=ec n;have h2:=bf n
 match hd:aP n,h1 with
 | c::r,_=>rw[hd,List.all_cons,Bool.and_eq_true] at h2;exact ⟨c,r,rfl,h2.1⟩
theorem u9 (n:Nat):sgB (aP n)=false:=by
 obtain ⟨c,r,h1,h2⟩:=mY n;rw[h1];unfold sgB;have h3:=bW.1 h2;simp only[List.head?_cons,beq_eq_false_iff_ne,ne_eq,Option.some.injEq];intro e;subst e;have:(45:UInt8).toNat=45:=rfl
 omega
theorem lN (z:Int):sgB (bN z)=decide (z<0):=by
 unfold bN
 split
 · rename_i h;simp[sgB,h]
 · rename_i h;rw[u9];simp[h]
theorem mZ (z:Int):bJ (bN z)=aP z.natAbs:=by
 unfold bJ;rw[lN];unfold bN
 split
 · rename_i h;rw[if_pos (by simpa using h)];rfl
 · rename_i h;rw[if_neg (by simpa using h)]
theorem dW:aP 0=[48]:=by rw[bR (by omega)];rfl
theorem tL:bN 0=[48]:=dW
theorem tM (z:Int):fK (bN z)=some z:=by
 unfold fK;rw[mZ,if_neg (by rintro (h | h);exact ec _ h;rw[bf] at h;cases h),bX,lN];unfold sgn
 congr 1
 by_cases h:z<0
 · rw[if_pos (by simpa using h)];omega
 · rw[if_neg (by simpa using h)];omega
theorem gQ (z:Int):aY (bN z)=some z:=by
 unfold aY;rw[if_neg,tM];rw[mZ];rintro (h | ⟨h1,h2⟩)
 · exact ec _ h
 · by_cases h0:z.natAbs=0
   · apply h2;have:z=0:=by omega
     subst this;exact tL
   · exact il _ h0 h1
theorem jj (n:Nat):bN (n:Int)=aP n:=by unfold bN;rw[if_neg (by omega),Int.natAbs_natCast]
theorem pl (n:Nat) (h:0<n):bN (-(n:Int))=45::aP n:=by unfold bN;rw[if_pos (by omega),Int.natAbs_neg,Int.natAbs_natCast]
theorem ep {l:List UInt8} {z:Int} (h:aY l=some z):bN z=l:=by
 unfold aY at h
 split at h
 · cases h
 · rename_i hn
   unfold fK at h
   split at h
   · cases h
   · rename_i hi
     cases h
     have hb:bJ l≠[]:=fun e=>hi (.inl e)
     have hd:(bJ l).all isD=true:=by
      cases e:(bJ l).all isD with
      | true=>rfl
      | false=>exact absurd (.inr e) hi
     by_cases h48:(bJ l).headD 0=48
     · have hl:l=[48]:=Decidable.byContradiction fun e=>hn (.inr ⟨h48,e⟩)
       subst hl;decide+kernel
     · have hc:=jg ⟨hd,hb,.inr h48⟩;have hp:=qY hd hb h48;have hp1:0<10 ^ ((bJ l).length-1):=Nat.pow_pos (by omega);cases hs:sgB l with
       | true=>
         show bN (-(dv (bJ l):Int))=l;rw[pl _ (by omega),hc];unfold bJ;rw[hs,if_pos rfl]
         match l,hs with
         | c::r,hs=>simp[sgB] at hs;subst hs;rfl
         | [],hs=>cases hs
       | false=>
         show bN (dv (bJ l):Int)=l;rw[jj,hc];unfold bJ;rw[hs];rfl
theorem qZ {l:List UInt8} {z:Int}:aY l=some z ↔ bN z=l:=⟨ep,fun h=>by rw[←h,gQ]⟩
def upto (l:List UInt8):List UInt8:=l.takeWhile (· !=47)
def behind (l:List UInt8):List UInt8:=(l.dropWhile (· !=47)).drop 1
def bA (l:List UInt8):Option Rat:=
 if l.contains 47=false then Option.map (fun z:Int=>(z:Rat)) (aY l)
 else match aY (upto l),aY (behind l) with
  | some n,some d=>if h:1<d∧n≠0∧n.natAbs.gcd d.natAbs=1 then some ⟨n,d.natAbs,by omega,h.2.2⟩ else none
  | _,_=>none
theorem od (n:Nat) (c:UInt8) (hc:isD c=false):∀x∈aP n,(x !=c)=true:=by
 intro x hx;have:=List.all_eq_true.1 (bf n) x hx;rw[bne_iff_ne];intro e;subst e;rw[hc] at this;cases this
theorem m5 (z:Int):∀x∈bN z,(x !=47)=true:=by
 unfold bN;intro x hx
 split at hx
 · rw[List.mem_cons] at hx;rcases hx with rfl | hx
   · rfl
   · exact od _ 47 (by decide) x hx
 · exact od _ 47 (by decide) x hx
theorem gR {l:List UInt8} (h:∀x∈l,(x !=47)=true):l.contains 47=false:=by
 rw[Bool.eq_false_iff];intro hc;exact absurd (h 47 (by simpa using hc)) (by decide)
theorem q7 {a b:List UInt8} (h:∀x∈a,(x !=47)=true):upto (a++47::b)=a∧behind (a++47::b)=b∧(a++47::b).contains 47=true:=by
 refine ⟨?_,?_,by simp⟩
 · unfold upto;rw[List.takeWhile_append_of_pos h,List.takeWhile_cons];simp
 · unfold behind;rw[List.dropWhile_append_of_pos h,List.dropWhile_cons];simp
theorem pn {l:List UInt8} (h:l.contains 47=true):l=upto l++47::behind l:=by
 induction l with
 | nil=>simp at h
 | cons c r ih=>
   by_cases hc:c=47
   · subst hc;rfl
   · have hr:r.contains 47=true:=by
       rw[List.contains_cons] at h;rcases (Bool.or_eq_true _ _).mp h with h | h
       · exact absurd (by simpa using h) (fun e:47=c=>hc e.symm)
       · exact h
     have hb:(c !=47)=true:=by simpa using hc
     unfold upto behind;rw[List.takeWhile_cons,if_pos hb,List.dropWhile_cons,if_pos hb];exact congrArg (c::·) (ih hr)
theorem io (q:Rat):bA (bE q)=some q:=by
 unfold bE bA
 by_cases h:q.den=1
 · rw[if_pos h,List.append_nil,if_pos (gR (m5 _)),gQ];simp only[Option.map_some,Option.some.injEq];exact Rat.ext rfl h.symm
 · rw[if_neg h];obtain ⟨h1,h2,h3⟩:=q7 (b:=aP q.den) (m5 q.num);rw[if_neg (by rw[h3];simp),h1,h2,gQ]
   have h4:aY (aP q.den)=some (q.den:Int):=by
    rw[qZ];unfold bN;rw[if_neg (by omega),Int.natAbs_natCast]
   rw[h4];have hz:=q.den_nz;have hred:=q.reduced
   have hnum:q.num≠0:=by
    intro e;rw[e] at hred
    simp[Nat.Coprime] at hred
    exact h hred
   simp only;rw[dif_pos ⟨by omega,hnum,by rw[Int.natAbs_natCast];exact hred⟩]
   congr 1
theorem m6 (z:Int):bE (z:Rat)=bN z:=by unfold bE;rw[if_pos (Rat.den_intCast z),List.append_nil,Rat.num_intCast]
theorem j0 {l:List UInt8} {q:Rat} (h:bA l=some q):bE q=l:=by
 unfold bA at h
 split at h
 · rename_i hc
   obtain ⟨z,hz,rfl⟩:=Option.map_eq_some_iff.1 h;rw[m6];exact ep hz
 · rename_i hc
   have hc':l.contains 47=true:=by simpa using hc
   split at h
   · rename_i n d hn hd
     split at h
     · rename_i hh
       cases h
       have h1:=ep hn;have h2:=ep hd;unfold bN at h2;rw[if_neg (by omega)] at h2;unfold bE;simp only;rw[if_neg (by omega),h1,h2];exact (pn hc').symm
     · cases h
   · cases h
def txt:Option Rat→List UInt8
 | some q=>bE q
 | none=>[]
def on2 (f:Rat→Rat→Option Rat) (a b:List UInt8):List UInt8:=txt ((bA a).bind fun x=>(bA b).bind fun y=>f x y)
theorem va:bA []=none:=by decide+kernel
structure ShlR (a w:List Nat) (S i c:Nat):Prop where
 len:w.length=a.length+1
 ws:Ws w
 zero:∀k,i≤k→w.getD k 0=0
 c1:c<S
 val:wv w+BB ^ i*c=wv (a.take i)*S
theorem ShlR.start (a:List Nat) (S:Nat) (hS:0<S):ShlR a (List.replicate (a.length+1) 0) S 0 0:=
 ⟨by simp,Ws.zeros _,fun k _=>by rw[aw,List.getElem?_replicate];split <;> rfl,hS,by rw[i9];simp[cZ]⟩
theorem lO {x S T c:Nat} (hx:x<BB) (hST:S*T=BB) (hc:c<S):x*S % BB+c<BB∧x*S / BB<S∧x*S % BB=x % T*S∧x*S<BB*BB:=by
 have hS:0<S:=by omega
 have hT:0<T:=by
  rcases Nat.eq_zero_or_pos T with h | h
  · subst h;have:=bw;omega
  · exact h
 have e1:x*S % BB=x % T*S:=by rw[←hST,Nat.mul_comm S T,Nat.mul_mod_mul_right]
 have e2:(x % T+1)*S≤T*S:=Nat.mul_le_mul_right _ (Nat.mod_lt _ hT);rw[Nat.add_mul,Nat.one_mul,Nat.mul_comm T S,hST] at e2;have e3:x*S<S*BB:=by rw[Nat.mul_comm];exact Nat.mul_lt_mul_of_pos_left hx hS
 have e4:S*BB≤BB*BB:=Nat.mul_le_mul_right _ (by rw[←hST];exact Nat.le_mul_of_pos_right _ hT);exact ⟨by rw[e1];omega,(Nat.div_lt_iff_lt_mul bw).2 e3,e1,by omega⟩
theorem ShlR.step {a w:List Nat} {S T i c:Nat} (h:ShlR a w S i c) (hST:S*T=BB) (ha:Ws a) (hi:i<a.length):ShlR a (w.set i (a.getD i 0*S % BB+c)) S (i+1) (a.getD i 0*S / BB):=by
 obtain ⟨h1,h2,_,_⟩:=lO (ha.getD i) hST h.c1;refine ⟨by rw[aL];exact h.len,h.ws.set i h1,fun k hk=>by rw[cD _ _ _ _ (by omega)];exact h.zero k (by omega),h2,?_⟩;rw[ik w i _ (by rw[h.len];omega) (h.zero i (ag _)),bj,Nat.pow_succ,Nat.mul_assoc];have h3:=h.val;have h4:=jb (a.getD i 0*S);have e1:BB ^ i*(a.getD i 0*S % BB+BB*(a.getD i 0*S / BB))=BB ^ i*(a.getD i 0*S):=by rw[h4]
 rw[Nat.add_mul,Nat.mul_assoc (BB ^ i) (a.getD i 0)];simp only[Nat.mul_add] at *
 omega
theorem ShlR.done {a w:List Nat} {S T c:Nat} (h:ShlR a w S a.length c) (hST:S*T=BB):wv (w.set a.length c)=wv a*S∧Ws (w.set a.length c)∧(w.set a.length c).length=a.length+1:=by
 have h1:=h.val;rw[bK a _ (ag _)] at h1;have hc:=h.c1
 have hT:0<T:=by
  rcases Nat.eq_zero_or_pos T with h | h
  · subst h;have:=bw;omega
  · exact h
 have:S≤BB:=by rw[←hST];exact Nat.le_mul_of_pos_right _ hT
 exact ⟨by rw[ik w _ _ (by rw[h.len];omega) (h.zero _ (ag _)),h1],h.ws.set _ (by omega),by rw[aL,h.len]⟩
structure ShrR (a w:List Nat) (S i:Nat):Prop where
 len:w.length=a.length
 ws:Ws w
 zero:∀k,i≤k→w.getD k 0=0
 val:wv w*S+a.getD 0 0 % S=wv (a.take i)+BB ^ i*(a.getD i 0 % S)
theorem ShrR.start (a:List Nat) (S:Nat):ShrR a (List.replicate a.length 0) S 0:=
 ⟨by simp,Ws.zeros _,fun k _=>by rw[aw,List.getElem?_replicate];split <;> rfl,by rw[i9];simp[cZ]⟩
theorem vb {x y S T:Nat} (hx:x<BB) (hST:S*T=BB) (hS:0<S):(x+BB*y) / S % BB<BB∧(x+BB*y) / S % BB=x / S+T*(y % S):=by
 refine ⟨Nat.mod_lt _ bw,?_⟩;have e1:(x+BB*y) / S=x / S+T*y:=by rw[←hST,Nat.mul_assoc,Nat.add_mul_div_left _ _ hS]
 have hT:0<T:=by
  rcases Nat.eq_zero_or_pos T with h | h
  · subst h;have:=bw;omega
  · exact h
 have e2:x / S<T:=(Nat.div_lt_iff_lt_mul hS).2 (by rw[Nat.mul_comm,hST];exact hx)
 have e3:T*(y % S)+T≤BB:=by
  rw[←hST,Nat.mul_comm S T,←Nat.mul_succ];exact Nat.mul_le_mul_left _ (Nat.mod_lt _ hS)
 have e4:T*y=T*(y % S)+BB*(y / S):=by
  rw[←hST,Nat.mul_comm S T,Nat.mul_assoc,←Nat.mul_add,Nat.mod_add_div]
 rw[e1,e4,←Nat.add_assoc,Nat.add_mul_mod_self_left,Nat.mod_eq_of_lt (by omega)]
theorem ShrR.step {a w:List Nat} {S T i:Nat} (h:ShrR a w S i) (hST:S*T=BB) (hS:0<S) (ha:Ws a) (hi:i<a.length) (t:Nat) (ht:t=a.getD i 0+BB*a.getD (i+1) 0):ShrR a (w.set i (t / S % BB)) S (i+1):=by
 obtain ⟨h1,h2⟩:=vb (y:=a.getD (i+1) 0) (ha.getD i) hST hS;rw[←ht] at h1 h2;refine ⟨by rw[aL];exact h.len,h.ws.set i h1,fun k hk=>by rw[cD _ _ _ _ (by omega)];exact h.zero k (by omega),?_⟩;rw[ik w i _ (by rw[h.len];omega) (h.zero i (ag _)),bj,h2,Nat.pow_succ,Nat.mul_assoc];have h3:=h.val;have h4:=Nat.mod_add_div (a.getD i 0) S;have e1:BB ^ i*(a.getD i 0 % S+S*(a.getD i 0 / S))=BB ^ i*a.getD i 0:=by rw[h4]
 have e2:BB ^ i*(a.getD i 0 / S+T*(a.getD (i+1) 0 % S))*S=BB ^ i*(S*(a.getD i 0 / S))+BB ^ i*(BB*(a.getD (i+1) 0 % S)):=by rw[←hST];grind
 rw[Nat.add_mul,e2];rw[Nat.mul_add] at e1
 omega
theorem ShrR.done {a w:List Nat} {S:Nat} (h:ShrR a w S a.length) (r:Nat) (hr:wv a=r*S) (hS:0<S):wv w=r:=by
 have h1:=h.val;rw[bK a _ (ag _),aw (i:=a.length),List.getElem?_eq_none (ag _)] at h1;simp only[Option.getD_none,Nat.zero_mod,Nat.mul_zero,Nat.add_zero] at h1;rw[hr] at h1;have h2:=congrArg (· % S) h1;simp only[Nat.mul_add_mod_self_right,Nat.mul_mod_left,Nat.mod_mod] at h2;rw[h2,Nat.add_zero] at h1;exact Nat.eq_of_mul_eq_mul_right hS h1
structure MacR (w w':List Nat) (m v i c:Nat):Prop where
 len:w'.length=w.length
 ws:Ws w'
 rest:∀j,i≤j→w'.getD j 0=w.getD j 0
 c1:c<BB
 val:wv (w'.take i)+BB ^ i*c=wv (w.take i)*m+v
theorem MacR.start (w:List Nat) (m v:Nat) (hw:Ws w) (hv:v<BB):MacR w w m v 0 v:=⟨rfl,hw,fun _ _=>rfl,hv,by simp[cZ]⟩
theorem MacR.step {w w':List Nat} {m v i c:Nat} (h:MacR w w' m v i c) (hw:Ws w) (hm:m<BB) (hi:i<w.length) (t:Nat) (ht:t=w.getD i 0*m+c):MacR w (w'.set i (t % BB)) m v (i+1) (t / BB)∧t<BB*BB:=by
 have h2:=jc (w.getD i 0) m 0 c (hw.getD i) hm bw h.c1;rw[Nat.add_zero,←ht] at h2;refine ⟨⟨by rw[aL];exact h.len,h.ws.set _ (Nat.mod_lt _ bw),fun j hj=>by rw[cD _ _ _ _ (by omega)];exact h.rest j (by omega),(Nat.div_lt_iff_lt_mul bw).2 h2,?_⟩,h2⟩;rw[gP _ _ _ (by rw[h.len];omega),bj w,Nat.pow_succ,Nat.mul_assoc];have h3:=h.val;have h4:=jb t;have e1:BB ^ i*(t % BB+BB*(t / BB))=BB ^ i*(w.getD i 0*m+c):=by rw[h4,ht]
 have e2:BB ^ i*w.getD i 0*m=BB ^ i*(w.getD i 0*m):=Nat.mul_assoc _ _ _;rw[Nat.add_mul,e2];simp only[Nat.mul_add] at *
 omega
theorem MacR.done {w w':List Nat} {m v c:Nat} (h:MacR w w' m v w.length c):wv (w'++[c])=wv w*m+v∧(c=0→wv w'=wv w*m+v)∧Ws (w'++[c]):=by
 have h1:=h.val;rw[bK w _ (ag _),bK w' _ (by rw[h.len];exact ag _)] at h1;refine ⟨by rw[lj,h.len];exact h1,fun hc=>by subst hc;omega,h.ws.append fun x hx=>by rw[List.mem_singleton] at hx;rw[hx];exact h.c1⟩
def mI (n:Nat):List UInt8:=List.replicate (9-(aP n).length) 48++aP n
theorem yQ (k:Nat):dv (List.replicate k 48)=0:=by
 induction k with
 | zero=>rfl
 | succ k ih=>rw[List.replicate_succ,fe,ih];simp
theorem vc (n:Nat):(mI n).all isD=true:=by
 unfold mI;rw[List.all_append,bf,Bool.and_true,List.all_eq_true];intro x hx;rw[(List.mem_replicate.1 hx).2];decide
theorem xt (n:Nat):dv (mI n)=n:=by unfold mI;rw[im,yQ,bX];simp
theorem vg (n:Nat) (h:n<1000000000):(mI n).length=9:=by
 have:=dD (n:=n) (k:=9) (by omega) (by simpa using h);unfold mI;rw[aA,List.length_replicate];omega
theorem q8 (hi lo:Nat) (h:0<hi) (hl:lo<1000000000):aP (hi*1000000000+lo)=aP hi++mI lo:=by
 have e:dv (aP hi++mI lo)=hi*1000000000+lo:=by rw[im,bX,xt,vg lo hl]
 rw[←e];refine jg ⟨by rw[List.all_append,bf,vc];rfl,by simp[ec],.inr ?_⟩;have h1:=il hi (by omega)
 match hd:aP hi,ec hi with
 | c::r,_=>rw[hd] at h1;exact h1
def dq:List Nat→Nat
 | []=>0
 | x::l=>x+1000000000*dq l
theorem oe (l:List Nat) (x:Nat):dq (l++[x])=dq l+1000000000 ^ l.length*x:=by
 induction l with
 | nil=>simp[dq]
 | cons y r ih=>simp only[List.cons_append,dq,ih,au,Nat.pow_succ];grind
def ip (l:List Nat):List UInt8:=match l.reverse with
 | []=>[]
 | x::r=>aP x++(r.map mI).flatten
theorem og (x:Nat) (l:List Nat) (hl:l≠[]):ip (x::l)=ip l++mI x:=by
 unfold ip;rw[List.reverse_cons]
 match hr:l.reverse,(by simpa using hl:l.reverse≠[]) with
 | y::r,_=>simp
theorem ra (l:List Nat) (hl:l≠[]) (h:∀x∈l,x<1000000000) (h0:l.getLastD 0≠0):ip l=aP (dq l)∧0<dq l:=by
 induction l with
 | nil=>exact absurd rfl hl
 | cons x r ih=>
   by_cases hr:r=[]
   · subst hr;simp only[ip,dq,List.reverse_cons,List.reverse_nil,List.nil_append,List.map_nil,List.flatten_nil,List.append_nil,Nat.mul_zero,Nat.add_zero]
     simp at h0
     exact ⟨trivial,by omega⟩
   · obtain ⟨h1,h2⟩:=ih hr (fun y hy=>h y (by simp[hy])) (by match r,hr with | y::s,_=>simpa using h0);rw[og x r hr,h1];refine ⟨?_,by simp only[dq];omega⟩;have:=q8 (dq r) x h2 (h x (by simp));simp only[dq];rw[←this];congr 1;omega
theorem vh (q:List UInt8) (n i:Nat) (c:UInt8) (hq:q.length=n) (hi:i<n):lo (q.set (n-1-i) c) (i+1)=(c.toNat-48)*10 ^ i+lo q i:=by
 have hd:di (q.set (n-1-i) c) i=c.toNat-48:=by
  rw[yy _ _ (by rw[aL];omega)];simp only[aL,hq,List.getElem_set_self]
 have hl:lo (q.set (n-1-i) c) i=lo q i:=by
  unfold lo;rw[aL,List.drop_set,if_pos (by omega)]
 rw[oc,hd,hl]
def Dt (q:List UInt8) (i:Nat):Prop:=(q.drop (q.length-i)).all isD=true
theorem Dt.zero (q:List UInt8):Dt q 0:=by unfold Dt;rw[Nat.sub_zero,List.drop_length];rfl
theorem Dt.set {q:List UInt8} {n i:Nat} {c:UInt8} (h:Dt q i) (hq:q.length=n) (hi:i<n) (hc:isD c=true):Dt (q.set (n-1-i) c) (i+1):=by
 unfold Dt at *;rw[aL,hq,show n-(i+1)=n-1-i by omega,List.drop_eq_getElem_cons (by rw[aL];omega),List.getElem_set_self,List.drop_set,if_pos (by omega),List.all_cons,hc,Bool.true_and];rw[hq] at h;rw[show n-1-i+1=n-i by omega];exact h
theorem Dt.all {q:List UInt8} {n:Nat} (h:Dt q n) (hq:q.length=n):q.all isD=true:=by
 unfold Dt at h;rwa [hq,Nat.sub_self,List.drop_zero] at h
theorem zx (s:Nat):(dg (s % 10)).toNat-48=s % 10:=by rw[bT (Nat.mod_lt _ (by omega))];omega
structure SubD (a b q:List UInt8) (n i c:Nat):Prop where
 len:q.length=n
 dig:Dt q i
 c1:c≤1
 eq:lo q i+lo b i=lo a i+c*10 ^ i
theorem SubD.start (a b q:List UInt8) (n:Nat) (h:q.length=n):SubD a b q n 0 0:=⟨h,Dt.zero q,by omega,by rw[lm,lm,lm,Nat.zero_mul]⟩
theorem SubD.step {a b q:List UInt8} {n i c:Nat} (h:SubD a b q n i c) (hi:i<n) (s c':Nat) (hs:s+c+di b i=di a i+10*c') (h10:s<10) (hc:c'≤1):
    SubD a b (q.set (n-1-i) (dg s)) n (i+1) c':=by
 have h4:=h.eq;refine ⟨by rw[aL];exact h.len,h.dig.set h.len hi (lK h10),hc,?_⟩;rw[vh _ _ _ _ h.len hi,oc,oc,Nat.pow_succ,bT h10,Nat.add_sub_cancel_left];generalize 10 ^ i=p at *;generalize di a i=x at *;generalize di b i=y at *
 grind
theorem SubD.done {a b q:List UInt8} {n c:Nat} (h:SubD a b q n n c) (h0:0<n) (h1:a.length≤n) (h2:b.length≤n) (hle:dv b≤dv a):bU q=aP (dv a-dv b):=by
 have hall:=h.dig.all h.len;have h4:=h.eq;rw[oa q n (by rw[h.len];exact ag _),oa a n (by omega),oa b n (by omega)] at h4;rw[dV q hall (fun e=>by have:=h.len;rw[e] at this;simp at this;omega)];have h5:=jd q hall;rw[h.len] at h5
 have hc:c=0:=by
  have hc1:=h.c1;rcases Nat.eq_zero_or_pos c with hc | hc
  · exact hc
  · obtain rfl:c=1:=by omega
    omega
 subst hc
 congr 1;omega
def vt:List Nat→Nat
 | []=>0
 | x::r=>x*10 ^ r.length+vt r
theorem yR (L:List Nat) (k x:Nat) (hk:k<L.length):vt (L.set k (L.getD k 0+x))=vt L+x*10 ^ (L.length-1-k):=by
 induction L generalizing k with
 | nil=>simp at hk
 | cons y r ih=>
   cases k with
   | zero=>
     rw[aj,vt,vt,List.getD_cons_zero,au,Nat.add_sub_cancel,Nat.sub_zero,Nat.add_mul]
     omega
   | succ k=>
     rw[au] at hk;rw[am,vt,vt,List.getD_cons_succ,ih k (by omega),aL,au,show r.length+1-1-(k+1)=r.length-1-k by omega]
     omega
theorem vj (n:Nat):vt (List.replicate n 0)=0:=by
 induction n with
 | zero=>rfl
 | succ n ih=>rw[List.replicate_succ,vt,ih];omega
theorem xu (L:List Nat) (k:Nat) (hk:k<L.length):vt (L.drop k)=L.getD k 0*10 ^ (L.length-1-k)+vt (L.drop (k+1)):=by
 rw[List.drop_eq_getElem_cons hk,vt,List.length_drop,aw,aq hk,Option.getD_some,show L.length-(k+1)=L.length-1-k by omega]
def fd (l:List UInt8) (i:Nat):Nat:=(l.getD i 48).toNat-48
theorem vk (l:List UInt8) (h:l.all isD=true) (i:Nat):fd l i<10:=by
 unfold fd
 by_cases hi:i<l.length
 · rw[aw,aq hi,Option.getD_some];have:=bW.1 (List.all_eq_true.1 h _ (List.getElem_mem hi))
   omega
 · rw[aw,List.getElem?_eq_none (by omega)];decide
theorem oh (l:List UInt8) (i:Nat) (hi:i<l.length):dv (l.take (i+1))=10*dv (l.take i)+fd l i:=by
 rw[List.take_succ_eq_append_getElem hi,f6,fd,aw,aq hi,Option.getD_some]
theorem vl {k n:Nat} (h:k<n):10 ^ (n-k)=10*10 ^ (n-1-k):=by rw[←Nat.pow_succ'];congr 1;omega
structure MulD (a b:List UInt8) (L:List Nat) (i j:Nat):Prop where
 len:L.length=a.length+b.length
 le:∀k,L.getD k 0≤81*(i*b.length+j)
 eq:vt L=dv (a.take i)*10 ^ (a.length-i)*dv b+fd a i*10 ^ (a.length-1-i)*(dv (b.take j)*10 ^ (b.length-j))
theorem MulD.start (a b:List UInt8):MulD a b (List.replicate (a.length+b.length) 0) 0 0:=
 ⟨List.length_replicate,fun k=>by rw[aw,List.getElem?_replicate];split <;> simp,by rw[vj,List.take_zero,List.take_zero,fw];omega⟩
theorem MulD.step {a b:List UInt8} {L:List Nat} {i j:Nat} (h:MulD a b L i j) (ha:a.all isD=true) (hb:b.all isD=true) (hi:i<a.length) (hj:j<b.length):
    MulD a b (L.set (i+j+1) (L.getD (i+j+1) 0+fd a i*fd b j)) i (j+1):=by
 refine ⟨by rw[aL];exact h.len,fun k=>?_,?_⟩
 · have h1:=h.le k;have h2:=h.le (i+j+1);have h3:fd a i*fd b j≤9*9:=Nat.mul_le_mul (by have:=vk a ha i;omega) (by have:=vk b hb j;omega);rw[aw,List.getElem?_set]
   split
   · split
     · rw[Option.getD_some];omega
     · simp
   · rw[←aw];omega
 · rw[yR _ _ _ (by rw[h.len];omega),h.eq,oh b j hj,h.len];have e1:10 ^ (a.length+b.length-1-(i+j+1))=10 ^ (a.length-1-i)*10 ^ (b.length-1-j):=by rw[←Nat.pow_add];congr 1;omega
   rw[e1,vl hj,show b.length-(j+1)=b.length-1-j by omega];generalize 10 ^ (a.length-1-i)=p;generalize 10 ^ (b.length-1-j)=r;generalize fd a i=x;generalize fd b j=y;generalize dv (b.take j)=z;generalize dv (a.take i)*10 ^ (a.length-i)*dv b=t
   grind
theorem MulD.next {a b:List UInt8} {L:List Nat} {i:Nat} (h:MulD a b L i b.length) (hi:i<a.length):MulD a b L (i+1) 0:=by
 refine ⟨h.len,fun k=>by have:=h.le k;rw[Nat.add_mul];omega,?_⟩;rw[h.eq,oh a i hi,List.take_length,Nat.sub_self,List.take_zero,fw,vl hi,show a.length-(i+1)=a.length-1-i by omega];generalize 10 ^ (a.length-1-i)=p
 grind
theorem MulD.done {a b:List UInt8} {L:List Nat} (h:MulD a b L a.length 0):vt L=dv a*dv b:=by
 rw[h.eq,List.take_length,Nat.sub_self,List.take_zero,fw];grind
structure CarD (L:List Nat) (q:List UInt8) (n M i c:Nat):Prop where
 len:q.length=n
 dig:Dt q i
 c1:c≤M
 eq:lo q i+c*10 ^ i=vt (L.drop (n-i))
theorem CarD.start (L:List Nat) (q:List UInt8) (n M:Nat) (hq:q.length=n) (hL:L.length=n):CarD L q n M 0 0:=
 ⟨hq,Dt.zero q,by omega,by rw[lm,Nat.sub_zero,List.drop_of_length_le (by omega)];simp[vt]⟩
theorem CarD.step {L:List Nat} {q:List UInt8} {n M i c:Nat} (h:CarD L q n M i c) (hL:L.length=n) (hM:∀k,L.getD k 0≤M) (hi:i<n) (s:Nat) (hs:s=L.getD (n-1-i) 0+c):
    CarD L (q.set (n-1-i) (dg (s % 10))) n M (i+1) (s / 10):=by
 have h3:=h.c1;have h4:=h.eq;have h6:=hM (n-1-i);refine ⟨by rw[aL];exact h.len,h.dig.set h.len hi (lK (Nat.mod_lt _ (by omega))),by omega,?_⟩;rw[vh _ _ _ _ h.len hi,zx,Nat.pow_succ,show n-(i+1)=n-1-i by omega,xu L _ (by omega),show n-1-i+1=n-i by omega,←h4,hL,show n-1-(n-1-i)=i by omega];have h5:s=s % 10+s / 10*10:=by omega
 generalize s % 10=u at *;generalize s / 10=v at *;subst hs;generalize 10 ^ i=p at *;generalize L.getD (n-1-i) 0=x at *
 grind
theorem CarD.done {L:List Nat} {q:List UInt8} {n M c:Nat} (h:CarD L q n M n c) (h0:0<n) (hlt:vt L<10 ^ n):bU q=aP (vt L):=by
 have hall:=h.dig.all h.len;have h4:=h.eq;rw[oa q n (by rw[h.len];exact ag _),Nat.sub_self,List.drop_zero] at h4;rw[dV q hall (fun e=>by have:=h.len;rw[e] at this;simp at this;omega)]
 have hc:c=0:=by
  rcases Nat.eq_zero_or_pos c with hc | hc
  · exact hc
  · have:1*10 ^ n≤c*10 ^ n:=Nat.mul_le_mul_right _ hc
    omega
 subst hc;rw[←h4,Nat.zero_mul,Nat.add_zero]
structure LdD (a:List UInt8) (B:Nat) (q:List UInt8) (i R:Nat):Prop where
 len:q.length=a.length
 dig:(q.take i).all isD=true
 r1:R<B
 eq:dv (q.take i)*B+R=dv (a.take i)
theorem LdD.start (a q:List UInt8) (B:Nat) (hq:q.length=a.length) (hB:0<B):LdD a B q 0 0:=⟨hq,rfl,hB,by rw[List.take_zero,List.take_zero,fw];omega⟩
theorem LdD.step {a:List UInt8} {B:Nat} {q:List UInt8} {i R R' k:Nat} (h:LdD a B q i R) (hi:i<a.length) (hk:k<10) (hR:R'<B) (he:R'+k*B=10*R+fd a i):
    LdD a B (q.set i (dg k)) (i+1) R':=by
 have hl:=h.len
 have ht:(q.set i (dg k)).take (i+1)=q.take i++[dg k]:=by
  rw[List.take_succ_eq_append_getElem (by rw[aL];omega),List.getElem_set_self,List.take_set,List.set_eq_of_length_le (by rw[List.length_take];omega)]
 refine ⟨by rw[aL];exact hl,?_,hR,?_⟩
 · rw[ht,List.all_append,h.dig];simp[lK hk]
 · have:=h.eq;rw[ht,f6,oh a i hi,bT hk,←this,Nat.add_sub_cancel_left];generalize dv (q.take i)=x at *
   grind
theorem LdD.done {a:List UInt8} {B:Nat} {q:List UInt8} {R:Nat} (h:LdD a B q a.length R) (h0:a≠[]):bU q=aP (dv a / B)∧R=dv a % B:=by
 have h1:=h.eq;have h2:=h.dig;have hB:=h.r1;rw[List.take_length,aJ (by rw[h.len];exact ag _)] at h1;rw[aJ (by rw[h.len];exact ag _)] at h2;rw[dV q h2 (fun e=>h0 (List.length_eq_zero_iff.1 (by rw[←h.len,e];rfl)))]
 have h3:dv a / B=dv q∧dv a % B=R:=by
  rw[←h1];refine ⟨?_,?_⟩
  · rw[Nat.mul_comm,Nat.mul_add_div (by omega),Nat.div_eq_of_lt hB,Nat.add_zero]
  · rw[Nat.mul_comm,Nat.mul_add_mod,Nat.mod_eq_of_lt hB]
 exact ⟨by rw[h3.1],h3.2.symm⟩
theorem tN (R:Nat) (c:UInt8) (hc:isD c=true):bU (aP R++[c])=aP (10*R+(c.toNat-48)):=by
 rw[dV _ (by rw[List.all_append,bf];simp[hc]) (by simp),f6,bX]
theorem vm {B R d k R':Nat} (hR:R<B) (hd:d<10) (he:R'+k*B=10*R+d) (hB:B≤R'):k+1<10:=by
 rcases Nat.lt_or_ge (k+1) 10 with h | h
 · exact h
 · have:10*B≤(k+1)*B:=Nat.mul_le_mul_right _ h;rw[Nat.add_mul] at this
   omega
def eA (neg:Bool) (n d:Nat):Rat:=Rat.divInt (sgn neg n) d
theorem eP (b:Bool) (n:Nat):(sgn b n).natAbs=n:=by cases b <;> simp[sgn]
theorem yS (b:Bool) (n:Nat):decide (sgn b n<0)=(b && decide (n≠0)):=by
 rw[Bool.eq_iff_iff];cases b
 · simp[sgn]
 · simp[sgn]
   omega
theorem iU (neg:Bool) (n d:Nat) (hd:0<d):(eA neg n d).num=sgn neg (n / n.gcd d)∧(eA neg n d).den=d / n.gcd d:=by
 unfold eA;rw[Rat.divInt_ofNat,←Rat.normalize_eq_mkRat (by omega),Rat.normalize_eq];have hg:(sgn neg n).natAbs.gcd d=n.gcd d:=by rw[eP]
 simp only[hg,and_true];obtain ⟨k,hk⟩:=Nat.gcd_dvd_left n d;have hp:0<n.gcd d:=Nat.gcd_pos_of_pos_right _ hd;generalize n.gcd d=g at *;subst hk;have e:(g*k:Nat) / g=k:=Nat.mul_div_cancel_left _ hp;rw[e];cases neg
 · simp only[sgn,Bool.false_eq_true,if_false,Int.natCast_mul];exact Int.mul_ediv_cancel_left _ (by omega)
 · simp only[sgn,if_true,Int.natCast_mul];rw[←Int.mul_neg];exact Int.mul_ediv_cancel_left _ (by omega)
theorem vp (neg:Bool) (n d:Nat) (hd:0<d):decide ((eA neg n d).num<0)=(neg && decide (n / n.gcd d≠0))∧(eA neg n d).num.natAbs=n / n.gcd d:=by
 rw[(iU neg n d hd).1,yS,eP];exact ⟨rfl,rfl⟩
theorem iV (z:Int):sgn (decide (z<0)) z.natAbs=z:=by unfold sgn;split <;> simp_all <;> omega
theorem tO (q:Rat):eA (decide (q.num<0)) q.num.natAbs q.den=q:=by
 unfold eA;rw[iV];rw[Rat.divInt_ofNat,Rat.mkRat_self]
theorem sB (z:Int) (t:List UInt8):sgB (bN z++t)=decide (z<0):=by
 have h:=lN z;obtain ⟨c,r,hc,-⟩:=mY z.natAbs;unfold bN sgB at *
 by_cases hz:z<0
 · rw[if_pos hz] at h ⊢;exact h
 · rw[if_neg hz,hc] at h ⊢;exact h
theorem vq (z:Int) (t:List UInt8):bJ (bN z++t)=aP z.natAbs++t:=by
 have h:=sB z t;unfold bJ;rw[h];unfold bN
 by_cases hz:z<0
 · rw[decide_eq_true hz,if_pos rfl,if_pos hz];rfl
 · rw[decide_eq_false hz,if_neg (by simp),if_neg hz]
theorem sC {l:List UInt8} (h:∀x∈l,(x !=47)=true):upto l=l:=by
 unfold upto
 induction l with
 | nil=>rfl
 | cons c r ih=>rw[List.takeWhile_cons,if_pos (h c List.mem_cons_self),ih fun x hx=>h x (List.mem_cons_of_mem _ hx)]
def iG (s:List UInt8):List UInt8:=if s.contains 47 then behind s else [49]
theorem eQ:aP 1=[49]:=by rw[bR (by omega)];rfl
theorem rc (q:Rat):sgB (bE q)=decide (q.num<0)∧upto (bJ (bE q))=aP q.num.natAbs∧iG (bJ (bE q))=aP q.den:=by
 unfold bE;rw[sB,vq];refine ⟨rfl,?_⟩;have hn:=od q.num.natAbs 47 (by decide)
 by_cases hd:q.den=1
 · rw[if_pos hd,List.append_nil,sC hn,iG,gR hn,hd,eQ];simp
 · rw[if_neg hd];obtain ⟨h1,h2,h3⟩:=q7 (b:=aP q.den) hn;rw[h1,iG,h3,h2];simp
theorem re {l:List UInt8} (h:bA l=none) (q:Rat):bE q≠l:=fun e=>by rw[←e,io] at h;cases h
theorem rf {l:List UInt8} {q:Rat} (h:bA l=some q):sgB l=decide (q.num<0)∧upto (bJ l)=aP q.num.natAbs∧iG (bJ l)=aP q.den:=by
 rw[←j0 h];exact rc q
theorem rg (q:Rat):bE q=(if q.num<0 then [45] else [])++(aP q.num.natAbs++(if q.den=1 then [] else 47::aP q.den)):=by
 unfold bE bN
 split <;> simp
theorem gS {n:Nat}:aP n=[49] ↔ n=1:=⟨fun h=>je (h.trans eQ.symm),fun h=>by rw[h,eQ]⟩
theorem dN {n:Nat}:aP n=[48] ↔ n=0:=⟨fun h=>je (h.trans dW.symm),fun h=>by rw[h,dW]⟩
theorem sgn_mul (a b:Bool) (m n:Nat):sgn (a !=b) (m*n)=sgn a m*sgn b n:=by
 cases a <;> cases b <;> simp[sgn,Int.mul_neg,Int.neg_mul]
theorem dE (a:Bool) (m n:Nat):sgn a (m*n)=sgn a m*n:=by cases a <;> simp[sgn,Int.neg_mul]
theorem po (x y:Rat):eA (decide (x.num<0) !=decide (y.num<0)) (x.num.natAbs*y.num.natAbs) (x.den*y.den)=x*y:=by
 unfold eA;rw[sgn_mul,iV,iV,Rat.mul_def,Rat.normalize_eq_mkRat (Nat.mul_ne_zero x.den_nz y.den_nz),Rat.divInt_ofNat]
theorem pp (x y:Rat):x+y=Rat.divInt (x.num*y.den+y.num*x.den) ((x.den*y.den:Nat):Int):=by
 rw[Rat.add_def,Rat.normalize_eq_mkRat (Nat.mul_ne_zero x.den_nz y.den_nz),Rat.divInt_ofNat]
theorem tP (x y:Rat) (h:decide (x.num<0)=decide (y.num<0)):eA (decide (x.num<0)) (x.num.natAbs*y.den+y.num.natAbs*x.den) (x.den*y.den)=x+y:=by
 rw[pp];unfold eA
 congr 1
 have h1:=dE (decide (x.num<0)) x.num.natAbs y.den;have h2:=dE (decide (y.num<0)) y.num.natAbs x.den;rw[iV] at h1 h2;rw[←h1,←h2,←h];cases decide (x.num<0) <;> simp[sgn] <;> omega
theorem m7 (x y:Rat) (h:decide (x.num<0)≠decide (y.num<0)) (hle:y.num.natAbs*x.den≤x.num.natAbs*y.den):eA (decide (x.num<0)) (x.num.natAbs*y.den-y.num.natAbs*x.den) (x.den*y.den)=x+y:=by
 rw[pp];unfold eA
 congr 1
 have h1:=dE (decide (x.num<0)) x.num.natAbs y.den;have h2:=dE (decide (y.num<0)) y.num.natAbs x.den;rw[iV] at h1 h2;rw[←h1,←h2];generalize x.num.natAbs*y.den=m at *;generalize y.num.natAbs*x.den=n at *
 revert h
 cases decide (x.num<0) <;> cases decide (y.num<0) <;> simp[sgn] <;> omega
theorem tQ (x y:Rat) (h:decide (x.num<0)≠decide (y.num<0)) (hle:x.num.natAbs*y.den≤y.num.natAbs*x.den):eA (decide (y.num<0)) (y.num.natAbs*x.den-x.num.natAbs*y.den) (x.den*y.den)=x+y:=by
 have:=m7 y x (Ne.symm h) hle;rwa [Rat.add_comm,Nat.mul_comm y.den] at this
theorem pu (x y:Rat) (h:y.num≠0):eA (decide (x.num<0) !=decide (y.num<0)) (x.num.natAbs*y.den) (x.den*y.num.natAbs)=x / y:=by
 have hy:y≠0:=fun e=>h (by rw[e];rfl)
 have e:x / y=Rat.divInt (x.num*y.den) (x.den*y.num):=by
  rw[Rat.div_def]
  have h1:y⁻¹=Rat.divInt y.den y.num:=by
   conv=>lhs;rw[←Rat.num_divInt_den y]
   rw[Rat.inv_divInt]
  rw[h1]
  conv=>lhs;rw[←Rat.num_divInt_den x]
  rw[Rat.divInt_mul_divInt]
 rw[e];unfold eA
 by_cases hn:y.num<0
 · have e2:(x.den:Int)*y.num= -((x.den*y.num.natAbs:Nat):Int):=by rw[Int.natCast_mul,←Int.mul_neg];congr 1;omega
   rw[e2,Rat.divInt_neg',decide_eq_true hn]
   congr 1
   have h1:=dE (decide (x.num<0)) x.num.natAbs y.den;rw[iV] at h1;rw[←h1];cases decide (x.num<0) <;> simp[sgn]
 · have e2:(x.den:Int)*y.num=((x.den*y.num.natAbs:Nat):Int):=by rw[Int.natCast_mul];congr 1;omega
   rw[e2,decide_eq_false hn,Bool.bne_false,dE,iV]
def flI (x:Rat):Int:=x.num / x.den
theorem yT (x:Rat):sgn (decide (x.num<0)) (x.num.natAbs / x.den+(if (decide (x.num<0) && decide (x.num.natAbs % x.den≠0))=true then 1 else 0))=flI x:=by
 unfold flI;have hd:=x.den_pos
 by_cases hn:x.num<0
 · obtain ⟨m,hm⟩:∃m:Nat,x.num= -(m:Int):=⟨x.num.natAbs,by omega⟩
   rw[hm,Int.natAbs_neg,Int.natAbs_natCast];rw[hm] at hn;rw[decide_eq_true hn];generalize x.den=d at *;have h1:=Nat.div_add_mod m d;have h2:=Nat.mod_lt m hd
   by_cases h0:m % d=0
   · rw[if_neg (by simp[h0]),Nat.add_zero];rw[h0,Nat.add_zero] at h1;simp only[sgn,if_true]
     conv=>rhs;rw[←h1]
     rw[Int.natCast_mul,←Int.mul_neg];exact (Int.mul_ediv_cancel_left _ (by omega)).symm
   · rw[if_pos (by simp[h0])];simp only[sgn,if_true]
     symm
     rw[Int.ediv_eq_iff_of_pos (by omega)];generalize m / d=u at *;generalize m % d=r at *;subst h1
     constructor <;> grind
 · obtain ⟨m,hm⟩:∃m:Nat,x.num=(m:Int):=⟨x.num.natAbs,by omega⟩
   rw[decide_eq_false hn,Bool.false_and,if_neg (by simp),hm,Int.natAbs_natCast]
   simp[sgn]
def ceI (x:Rat):Int:= -flI (-x)
def DS (d:Nat) (q:Rat):Prop:=q.num.natAbs<10 ^ d∧q.den≤10 ^ d
theorem j1 {d e:Nat} (h:d≤e):10 ^ d≤10 ^ e:=Nat.pow_le_pow_right (by omega) h
theorem ff (d:Nat):0<10 ^ d:=Nat.pow_pos (by omega)
theorem DS.mono {d e:Nat} {q:Rat} (h:DS d q) (hd:d≤e):DS e q:=
 ⟨ap h.1 (j1 hd),aC h.2 (j1 hd)⟩
theorem lp {a b d e:Nat} (ha:a<10 ^ d) (hb:b≤10 ^ e):a*b<10 ^ (d+e):=by
 rw[Nat.pow_add];rcases Nat.eq_zero_or_pos b with h | h
 · subst h;rw[Nat.mul_zero];exact Nat.mul_pos (ff _) (ff _)
 · exact Nat.mul_lt_mul_of_lt_of_le ha hb (ff _)
theorem iW {a b d e:Nat} (ha:a≤10 ^ d) (hb:b≤10 ^ e):a*b≤10 ^ (d+e):=by
 rw[Nat.pow_add];exact Nat.mul_le_mul ha hb
theorem lq (neg:Bool) (n d:Nat) (hd:0<d):(eA neg n d).num.natAbs≤n∧(eA neg n d).den≤d:=by
 obtain ⟨h1,h2⟩:=iU neg n d hd;rw[h1,h2,eP];exact ⟨Nat.div_le_self _ _,Nat.div_le_self _ _⟩
theorem DS.red {neg:Bool} {n d k:Nat} (hn:n<10 ^ k) (hd:0<d) (hd':d≤10 ^ k):DS k (eA neg n d):=by
 obtain ⟨h1,h2⟩:=lq neg n d hd;exact ⟨Nat.lt_of_le_of_lt h1 hn,aC h2 hd'⟩
theorem DS.mul {d e:Nat} {p q:Rat} (hp:DS d p) (hq:DS e q):DS (d+e) (p*q):=by
 rw[←po];exact DS.red (lp hp.1 (aI hq.1)) (Nat.mul_pos p.den_pos q.den_pos) (iW hp.2 hq.2)
theorem DS.add {d e:Nat} {p q:Rat} (hp:DS d p) (hq:DS e q):DS (d+e+1) (p+q):=by
 have h1:=lp hp.1 hq.2;have h2:=lp hq.1 hp.2;have h3:=iW hp.2 hq.2;rw[Nat.add_comm e d] at h2;have h4:10 ^ (d+e+1)=10*10 ^ (d+e):=Nat.pow_succ';have h5:p.num.natAbs*q.den+q.num.natAbs*p.den<10 ^ (d+e+1):=by omega
 have h6:p.den*q.den≤10 ^ (d+e+1):=by omega
 have h7:0<p.den*q.den:=Nat.mul_pos p.den_pos q.den_pos
 by_cases hs:decide (p.num<0)=decide (q.num<0)
 · rw[←tP p q hs];exact DS.red h5 h7 h6
 · rcases Nat.le_total (q.num.natAbs*p.den) (p.num.natAbs*q.den) with hle | hle
   · rw[←m7 p q hs hle];exact DS.red (by omega) h7 h6
   · rw[←tQ p q hs hle];exact DS.red (by omega) h7 h6
theorem DS.neg {d:Nat} {p:Rat} (hp:DS d p):DS d (-p):=⟨by show (-p.num).natAbs<_;rw[Int.natAbs_neg];exact hp.1,hp.2⟩
theorem DS.div {d e:Nat} {p q:Rat} (hp:DS d p) (hq:DS e q) (h0:q.num≠0):DS (d+e) (p / q):=by
 rw[←pu p q h0];exact DS.red (lp hp.1 hq.2) (Nat.mul_pos p.den_pos (by omega)) (iW hp.2 (aI hq.1))
theorem DS.int {d:Nat} {z:Int} (h:z.natAbs<10 ^ d):DS d (z:Rat):=⟨by rw[Rat.num_intCast];exact h,by rw[Rat.den_intCast];exact ff d⟩
theorem DS.zero (d:Nat):DS d 0:=DS.int (z:=0) (ff d)
theorem DS.num {d:Nat} {p:Rat} (hp:DS d p):DS d (p.num:Rat):=DS.int hp.1
theorem DS.den {d:Nat} {p:Rat} (hp:DS d p):DS (d+1) (((p.den:Int)):Rat):=DS.int (by
 rw[Int.natAbs_natCast];have:=hp.2;have:=ff d;have h4:10 ^ (d+1)=10*10 ^ d:=Nat.pow_succ'
 omega)
theorem yU (x:Rat):(flI x).natAbs≤x.num.natAbs+1:=by
 rw[←yT,eP];have:=Nat.div_le_self x.num.natAbs x.den
 split <;> omega
theorem DS.fl {d:Nat} {p:Rat} (hp:DS d p):DS (d+1) (flI p:Rat):=DS.int (by
 have h1:=yU p;have h2:=hp.1;have h4:10 ^ (d+1)=10*10 ^ d:=Nat.pow_succ'
 omega)
theorem DS.ce {d:Nat} {p:Rat} (hp:DS d p):DS (d+1) (ceI p:Rat):=by
 unfold ceI;rw[Rat.intCast_neg];exact hp.neg.fl.neg
theorem rh (n:Nat):n<10 ^ (aP n).length:=by
 by_cases h:n=0
 · subst h;exact ff _
 · exact (jh n h).2
theorem sD (z:Int):(aP z.natAbs).length≤(bN z).length:=by unfold bN;split <;> simp
theorem sE (z:Int):(bN z).length≤(aP z.natAbs).length+1:=by unfold bN;split <;> simp
theorem DS.decN_num {d:Nat} {q:Rat} (h:DS d q):(aP q.num.natAbs).length≤d+1:=
 dD (by omega) (ap h.1 (j1 (by omega)))
theorem DS.decN_den {d:Nat} {q:Rat} (h:DS d q):(aP q.den).length≤d+1:=
 dD (by omega) (by
  have h4:10 ^ (d+1)=10*10 ^ d:=Nat.pow_succ';have:=h.2;have:=ff d
  omega)
theorem DS.len {d:Nat} {q:Rat} (h:DS d q):(bE q).length≤2*d+4:=by
 have h1:=h.decN_num;have h2:=h.decN_den;have h3:=sE q.num;unfold bE;rw[aA]
 split
 · simp;omega
 · rw[au];omega
theorem DS.parts {d:Nat} {q:Rat} (h:DS d q):(bN q.num).length+(bN q.den).length≤2*d+4:=by
 have h1:=h.decN_num;have h2:=h.decN_den;have h3:=sE q.num;rw[jj];omega
theorem tR {n d k:Nat} (h:n≤10 ^ d) (hk:d<9*k):n<BB ^ k:=by
 have h1:10 ^ (9*k)=(10 ^ 9) ^ k:=Nat.pow_mul ..;have h2:(10 ^ 9) ^ k≤BB ^ k:=Nat.pow_le_pow_left (by rw[aW];omega) k;have h3:10 ^ d<10 ^ (9*k):=Nat.pow_lt_pow_right (by omega) hk
 omega
def ri (x y:Rat):Option Rat:=some (x*y)
def kR (x y:Rat):Option Rat:=if y.num=0 then none else some (x / y)
theorem pw (f:Rat→Rat→Option Rat) (p q:Rat):on2 f (bE p) (bE q)=txt (f p q):=by unfold on2;rw[io,io];rfl
theorem lP {f:Rat→Rat→Option Rat} {a b:List UInt8} {p q:Rat} (hp:bA a=some p) (hq:bA b=some q):on2 f a b=txt (f p q):=by unfold on2;rw[hp,hq];rfl
theorem pz {f:Rat→Rat→Option Rat} {a b:List UInt8} (hp:bA a=none):on2 f a b=[]:=by unfold on2;rw[hp];rfl
theorem m8 {f:Rat→Rat→Option Rat} {a b:List UInt8} (hq:bA b=none):on2 f a b=[]:=by unfold on2;rw[hq];cases bA a <;> rfl
end Nmx
/- Slices of words in memory; trim, wordsOf, cmpWords of package exact. -/
namespace Go.Proofs.YtapdbeaoakcjeaaGreatDoor
open Go.RowKit Nmx
theorem ret_int {k:IntKind} {a b:Int} (h:a=b):Ending.returned (.int k a)=.returned (.int k b):=by rw[h]
theorem ret_bool {a b:Bool} (h:a=b):Ending.returned (.bool a)=.returned (.bool b):=by rw[h]
theorem bY {a b:ByteArray} (h:a=b):Ending.returned (.string a)=.returned (.string b):=by rw[h]
theorem m9 {a:Option Addr} {n m c:Nat} (h:n=m):Ending.returned (.slice a n c)=.returned (.slice a m c):=by rw[h]
theorem oi {a b c d:Value} (h:a=c) (h':b=d):Ending.returned (.tuple #[a,b])=.returned (.tuple #[c,d]):=by rw[h,h']
theorem fL {W w1:World} (hb:Below W.heap.size W w1):(∀b o,b<W.heap.size→w1.cell? ⟨b,o,none⟩=W.cell? ⟨b,o,none⟩)∧(∀b o,b<W.heap.size→w1.frozen? ⟨b,o,none⟩=W.frozen? ⟨b,o,none⟩):=
 ⟨fun b o h=>hb.cell (p:=⟨b,o,none⟩) h,fun b o h=>hb.frozen (p:=⟨b,o,none⟩) h⟩
structure WS (w:World) (ao:Option Addr) (g off cap:Nat) (l:List Nat):Prop where
 le:l.length≤cap
 most:cap≤9223372036854775807
 ad:0<cap→ao=some ⟨g,off,none⟩
 nil:ao=none→cap=0
 blk:0<cap→∃cs fr,w.heap[g]? =some (.cells cs 235 fr)
 at_:∀i,i<l.length→w.cell? ⟨g,off+i,none⟩=some (.int .u32 ((l.getD i 0:Nat):Int))
 ws:Ws l
theorem ay {w:World} {g:Nat} {o:Obj} (h:w.heap[g]? =some o):g<w.heap.size:=(Array.getElem?_eq_some_iff.1 h).1
theorem WS.lt {w:World} {ao:Option Addr} {g off cap:Nat} {l:List Nat} (h:WS w ao g off cap l) (hc:0<cap):g<w.heap.size:=let ⟨_,_,hb⟩:=h.blk hc;ay hb
theorem WS.same {w w':World} {ao:Option Addr} {g off cap:Nat} {l:List Nat} (h:WS w ao g off cap l) (hg:0<cap→w'.heap[g]? =w.heap[g]?):WS w' ao g off cap l:=
 ⟨h.le,h.most,h.ad,h.nil,fun hc=>by rw[hg hc];exact h.blk hc,fun i hi=>(World.cell?_of_block (hg (by have:=h.le;omega))).trans (h.at_ i hi),h.ws⟩
theorem WS.far {w w':World} {ao:Option Addr} {g off cap:Nat} {l:List Nat} (h:WS w ao g off cap l) (hb:Below w.heap.size w w'):WS w' ao g off cap l:=h.same fun hc=>hb.block g (h.lt hc)
theorem WS.drewN {w:World} {ao:Option Addr} {g off cap:Nat} {l:List Nat} (h:WS w ao g off cap l) (n:Nat):WS (w.drewN n) ao g off cap l:=
 ⟨h.le,h.most,h.ad,h.nil,h.blk,h.at_,h.ws⟩
theorem WS.store {w:World} {ao:Option Addr} {g off cap:Nat} {l:List Nat} (h:WS w ao g off cap l) {p:Addr} {cs:Array Value} {t:TypeId} {fr:Nat×Nat} (hp:w.heap[p.block]? =some (.cells cs t fr)) (ht:t≠235) (u:Value):WS (w.setCell p u) ao g off cap l:=
 h.same fun hc=>by
  refine aB w p u g (fun e=>?_);obtain ⟨cs',fr',hb⟩:=h.blk hc;rw[e,hp] at hb;cases hb;exact ht rfl
theorem WS.take {w:World} {ao:Option Addr} {g off cap:Nat} {l:List Nat} (h:WS w ao g off cap l) (n:Nat):WS w ao g off cap (l.take n):=
 ⟨by rw[List.length_take];have:=h.le;omega,h.most,h.ad,h.nil,h.blk,
   fun i hi=>by
    rw[List.length_take] at hi;have e:(l.take n).getD i 0=l.getD i 0:=by rw[aw,List.getElem?_take,if_pos (by omega),←aw]
    rw[e];exact h.at_ i (by omega),h.ws.take n⟩
def WV (w:World) (v:Value) (l:List Nat):Prop:=∃ao g off cap,v=.slice ao l.length cap∧WS w ao g off cap l
theorem WV.far {w w':World} {v:Value} {l:List Nat} (h:WV w v l) (hb:Below w.heap.size w w'):WV w' v l:=let ⟨ao,g,off,cap,e,h⟩:=h;⟨ao,g,off,cap,e,h.far hb⟩
theorem aO {B:Nat} {a w:World} (h:Below B a w) (n:Nat):Below B a (w.drewN n):=⟨h.os,h.tape,h.output,h.size,h.block⟩
theorem WV.nil (w:World):WV w (.slice none 0 0) []:=⟨none,0,0,0,rfl,⟨ag _,by omega,fun h=>absurd h (by omega),fun _=>rfl,fun h=>absurd h (by omega),fun i hi=>by simp at hi,Ws.nil⟩⟩
theorem pA (a b:List Nat) (hl:a.length=b.length) (ha:Ws a) (k:Nat) (hk:0<k) (hka:k≤a.length) (he:a.drop k=b.drop k) (h:a.getD (k-1) 0<b.getD (k-1) 0):wv a<wv b:=by
 obtain ⟨j,rfl⟩:∃j,k=j+1:=⟨k-1,by omega⟩
 rw[Nat.add_sub_cancel] at h;rw[f5 a j (by omega),f5 b j (by omega)] at h;exact yN a b hl ha j (by omega) he h
theorem tS (a b:List Nat) (hl:a.length=b.length) (k:Nat) (hk:0<k) (hka:k≤a.length) (he:a.drop k=b.drop k) (h:a.getD (k-1) 0=b.getD (k-1) 0):a.drop (k-1)=b.drop (k-1):=by
 obtain ⟨j,rfl⟩:∃j,k=j+1:=⟨k-1,by omega⟩
 rw[Nat.add_sub_cancel] at *;rw[f5 a j (by omega),f5 b j (by omega)] at h;rw[List.drop_eq_getElem_cons (by omega),List.drop_eq_getElem_cons (l:=b) (by omega),h,he]
theorem tT {l:List Nat} {k:Nat} (hk:0<k) (hl:k≤l.length) (h0:l.getD (k-1) 0=0):cJ (l.take k)=cJ (l.take (k-1)):=by
 obtain ⟨j,rfl⟩:∃j,k=j+1:=⟨k-1,by omega⟩
 rw[Nat.add_sub_cancel] at *;rw[List.take_succ_eq_append_getElem (by omega)];rw[f5 l j (by omega)] at h0;rw[h0,eM]
theorem tU {l:List Nat} {k:Nat} (hk:0<k) (hl:k≤l.length) (h0:l.getD (k-1) 0≠0):cJ (l.take k)=l.take k:=by
 obtain ⟨j,rfl⟩:∃j,k=j+1:=⟨k-1,by omega⟩
 rw[Nat.add_sub_cancel] at *;rw[List.take_succ_eq_append_getElem (by omega)];rw[f5 l j (by omega)] at h0;rw[eN _ _ h0]
theorem jk (ao:Option Addr) (g off cap:Nat) (l:List Nat) (w:World) (h:WS w ao g off cap l):
    Calls Tryz.prog 228 #[.slice ao l.length cap] w fun e w'=>e=.returned (.slice ao (cJ l).length cap)∧w=w':=by
 have hle:=h.le;have hmost:=h.most;have HH:=hid h;have HT:Hid (cJ (l.take l.length)=cJ l):=hid (by rw[List.take_length]);clear h
 go_enter Tryz.func228,Tryz.ntmps228
 go_wp2
 go_loop [0] (fun s=>∃k:Nat,k≤l.length∧s=.slice ao k cap∧cJ (l.take k)=cJ l) (fun s=>match s with | .slice _ n _=>n | _=>0)
 case atStart=>exact ⟨l.length,ag _,rfl,HT.out⟩
 case round=>
  obtain ⟨k,hk,rfl,hr⟩:=hrel;have HR:=hid hr;clear hr;rcases Nat.eq_zero_or_pos k with h0 | h0
  · subst h0
    go_wp2
    go_ret
    exact ⟨m9 (by rw[←HR.out];rfl),rfl⟩
  · have had:=HH.out.ad (by omega);subst had;have hc:=HH.out.at_ (k-1) (by omega);have HL:=hid (tT h0 hk);have HE:=hid (tU h0 hk);generalize l.getD (k-1) 0=x at *
    by_cases hx:x=0
    · subst hx;have hp:(0:Int)<(k:Int):=by omega
      have hi1:(0:Int)≤(k:Int)-1:=by omega
      have hi2:((k:Int)-1).toNat=k-1:=by omega
      go_wp2
      go_round
      case rel=>exact ⟨k-1,by omega,by simp,by rw[←HR.out,HL.out rfl]⟩
      case measure=>simp;omega
    · have hxb:((x:Int)==0)=false:=by simp;omega
      have hp:(0:Int)<(k:Int):=by omega
      have hi1:(0:Int)≤(k:Int)-1:=by omega
      have hi2:((k:Int)-1).toNat=k-1:=by omega
      have HE2:=hid (HE.out hx);clear hx
      go_wp2
      go_ret
      exact ⟨m9 (by rw[←HR.out,HE2.out,List.length_take,Nat.min_eq_left hk]),rfl⟩
def iH (a b:Nat):Int:=if a<b then -1 else if b<a then 1 else 0
theorem iq {a b:Nat} (h:a<b):iH a b= -1:=by unfold iH;rw[if_pos h]
theorem f7 {a b:Nat} (h:b<a):iH a b=1:=by unfold iH;rw[if_neg (by omega),if_pos h]
theorem ir {a b:Nat} (h:a=b):iH a b=0:=by unfold iH;rw[if_neg (by omega),if_neg (by omega)]
theorem eD (ao:Option Addr) (g off cap:Nat) (a:List Nat) (bo:Option Addr) (g' off' cap':Nat) (b:List Nat) (w:World) (ha:WS w ao g off cap a) (hb:WS w bo g' off' cap' b) (na:dS a) (nb:dS b):
    Calls Tryz.prog 242 #[.slice ao a.length cap,.slice bo b.length cap'] w fun e w'=>e=.returned (.int .i64 (iH (wv a) (wv b)))∧∃n,w'=w.drewN n:=by
 have hal:=ha.le;have ham:=ha.most;have hbl:=hb.le;have hbm:=hb.most;have HA:=hid ha;have HB:=hid hb;have NA:=hid na;have NB:=hid nb;clear ha hb na nb
 by_cases h1:a.length<b.length
 · have HR:=hid (iq (eo a b NA.out NB.out h1));have h1':(a.length:Int)<(b.length:Int):=by omega
   go_enter Tryz.func242,Tryz.ntmps242
   go_wp2
   go_ret
   exact ⟨ret_int HR.out.symm,0,rfl⟩
 · by_cases h2:b.length<a.length
   · have HR:=hid (f7 (eo b a NB.out NA.out h2));have h1':¬(a.length:Int)<(b.length:Int):=by omega
     have h2':(b.length:Int)<(a.length:Int):=by omega
     go_enter Tryz.func242,Tryz.ntmps242
     go_wp2
     go_ret
     exact ⟨ret_int HR.out.symm,0,rfl⟩
   · have hl:a.length=b.length:=by omega
     have HL:=hid hl;have h1':¬(a.length:Int)<(b.length:Int):=by omega
     have h2':¬(b.length:Int)<(a.length:Int):=by omega
     clear hl
     go_enter Tryz.func242,Tryz.ntmps242
     go_wp2
     go_loopw [5] (fun i wr=>∃(k n:Nat),k≤a.length∧i=.int .i64 ((k:Int)-1)∧a.drop k=b.drop k∧wr=w.drewN n) (fun i _=>(intOf i+1).toNat)
     case atStart=>exact ⟨a.length,0,ag _,rfl,by rw[List.drop_of_length_le (ag _),List.drop_of_length_le (by have:=HL.out;omega)],rfl⟩
     case round=>
      obtain ⟨k,n,hk,rfl,hd,rfl⟩:=hrel;have HD:=hid hd;clear hd;rcases Nat.eq_zero_or_pos k with h0 | h0
      · subst h0;have HR:Hid (iH (wv a) (wv b)=0):=hid (ir (by have:=HD.out;rw[List.drop_zero,List.drop_zero] at this;rw[this]))
        go_wp2
        go_ret
        exact ⟨ret_int HR.out.symm,n,rfl⟩
      · have hca:=HA.out.at_ (k-1) (by omega);have hcb:=HB.out.at_ (k-1) (by have:=HL.out;omega);have hda:=HA.out.ad (by omega);have hdb:=HB.out.ad (by omega);subst hda hdb;have hp:(0:Int)≤(k:Int)-1:=by omega
        have hi2:((k:Int)-1).toNat=k-1:=by omega
        have hi3:(k:Int)-1<(a.length:Int):=by omega
        have hi4:(k:Int)-1<(b.length:Int):=by omega
        have HT1:=hid (pA a b HL.out NA.out.1 k h0 hk HD.out);have HT2:=hid (pA b a HL.out.symm NB.out.1 k h0 (by have:=HL.out;omega) HD.out.symm);have HE:=hid (tS a b HL.out k h0 hk HD.out);generalize a.getD (k-1) 0=x at *;generalize b.getD (k-1) 0=y at *
        by_cases hxy:x<y
        · have HR:=hid (iq (HT1.out hxy));have h3:(x:Int)<(y:Int):=by omega
          go_wp2
          go_quiet (fail)
          go_wp2
          go_ret
          exact ⟨ret_int HR.out.symm,by simp only[World.drewN_drewN];exact ⟨_,rfl⟩⟩
        · by_cases hyx:y<x
          · have HR:=hid (f7 (HT2.out hyx));have h3:¬(x:Int)<(y:Int):=by omega
            have h4:(y:Int)<(x:Int):=by omega
            go_wp2
            go_quiet (fail)
            go_wp2
            go_quiet (fail)
            go_wp2
            go_ret
            exact ⟨ret_int HR.out.symm,by simp only[World.drewN_drewN];exact ⟨_,rfl⟩⟩
          · have HR:=hid (HE.out (by omega));have h3:¬(x:Int)<(y:Int):=by omega
            have h4:¬(y:Int)<(x:Int):=by omega
            go_wp2
            go_quiet (fail)
            go_wp2
            go_quiet (fail)
            go_wp2
            go_roundw
            case rel=>exact ⟨k-1,_,by omega,by congr 1;omega,HR.out,rfl⟩
            case measure=>simp[intOf];omega
def bZ (l:List Nat):List Value:=l.map fun n:Nat=>Value.int .u32 (n:Int)
theorem lu (l:List Nat) (i:Nat) (hi:i<l.length):(bZ l)[i]? =some (.int .u32 ((l.getD i 0:Nat):Int)):=by simp[bZ,hi]
theorem lQ (l:List Nat):(bZ l).length=l.length:=by simp[bZ]
theorem WS.new (w:World) (l:List Nat) (h:Ws l) (hl:l.length≤1000000000):WS (w.alloc (.cells (bZ l).toArray 235)) (some ⟨w.heap.size,0,none⟩) w.heap.size 0 l.length l:=by
 refine ⟨ag _,by omega,fun _=>rfl,(fun h=>by cases h),fun _=>⟨_,_,heap_alloc_new w _⟩,fun i hi=>?_,h⟩;rw[cell_of_row _ _ _ _ _ _ (heap_alloc_new w _),Nat.zero_add]
 simpa using lu l i hi
theorem tV (n:Nat) (hn:n<18446744073709551616):n % 4294967296<BB∧n / 4294967296<BB∧wv [n % 4294967296,n / 4294967296]=n:=by
 rw[aW];refine ⟨Nat.mod_lt _ (by omega),by omega,?_⟩;simp only[dM,cZ,aW]
 omega
def j2 (n:Nat) (w:World) (e:Ending) (w':World):Prop:=∃v l,e=.returned v∧WV w' v l∧dS l∧wv l=n∧l.length≤2∧Below w.heap.size w w'
theorem kC (n:Nat) (w:World) (hn:n<18446744073709551616):
    Calls Tryz.prog 241 #[.int .u64 n] w (j2 n w):=by
 rcases Nat.eq_zero_or_pos n with hz | hz
 · subst hz
   go_enter Tryz.func241,Tryz.ntmps241
   go_wp2
   go_ret
   exact ⟨_,[],rfl,WV.nil _,⟨Ws.nil,fun x hx=>by cases hx⟩,rfl,by simp,ah _ _⟩
 · have hzb:((n:Int)==0)=false:=by simp;omega
   by_cases hs:n<4294967296
   · have hq:((n:Int) / 4294967296==0)=true:=by simp;omega
     go_enter Tryz.func241,Tryz.ntmps241
     go_wp2
     go_ret
     have hW:Ws [n]:=Ws.cons (by rw[aW];exact hs) Ws.nil;exact ⟨_,[n],rfl,⟨_,_,_,_,rfl,WS.new w [n] hW (by simp)⟩,⟨hW,fun x hx=>by simp at hx;omega⟩,nY n,by simp,(ah _ _).alloc (ag _) _⟩
   · have hq:((n:Int) / 4294967296==0)=false:=by simp;omega
     go_enter Tryz.func241,Tryz.ntmps241
     go_wp2
     go_ret
     obtain ⟨h1,h2,h3⟩:=tV n hn;have hW:Ws [n % 4294967296,n / 4294967296]:=Ws.cons h1 (Ws.cons h2 Ws.nil);have e1:(n:Int) % 4294967296=((n % 4294967296:Nat):Int):=by omega
     have e2:(n:Int) / 4294967296=((n / 4294967296:Nat):Int):=by omega
     rw[e1,e2];exact ⟨_,[n % 4294967296,n / 4294967296],rfl,⟨_,_,_,_,rfl,WS.new w _ hW (by simp)⟩,⟨hW,fun x hx=>by simp at hx;omega⟩,h3,by simp,(ah _ _).alloc (ag _) _⟩
end Go.Proofs.YtapdbeaoakcjeaaGreatDoor
namespace Go.Proofs.YtapdbeaoakcjeaaGreatDoor
open Go.RowKit Nmx
section
def set3 (w:World) (R:Nat) (x y z:Value):World:=((w.setCell ⟨R,0,none⟩ x).setCell ⟨R,1,none⟩ y).setCell ⟨R,2,none⟩ z
end
def cq (z:Int):Value:=.agg #[.int .i64 z,.bool false,.slice none 0 0]
def iX (b:Bool) (ao:Option Addr) (n cap:Nat):Value:=.agg #[.int .i64 0,.bool b,.slice ao n cap]
def Small (z:Int):Prop:= -9223372036854775807≤z∧z≤9223372036854775807
def Big (l:List Nat):Prop:=dS l∧¬Small (wv l)∧l.length≤1000000
def IV (w:World) (v:Value) (z:Int):Prop:=
 (v=cq z∧Small z)∨∃b g off cap l,v=iX b (some ⟨g,off,none⟩) l.length cap∧WS w (some ⟨g,off,none⟩) g off cap l∧Big l∧z=sgn b (wv l)
instance smallDec (z:Int):Decidable (Small z):=inferInstanceAs (Decidable (_∧_))
theorem IV.far {w w':World} {v:Value} {z:Int} (h:IV w v z) (hb:Below w.heap.size w w'):IV w' v z:=by
 rcases h with h | ⟨b,g,off,cap,l,h1,h2,h3,h4⟩
 · exact .inl h
 · exact .inr ⟨b,g,off,cap,l,h1,h2.far hb,h3,h4⟩
theorem Big.pos {l:List Nat} (h:Big l):0<wv l∧1<wv l:=by
 have:=h.2.1;unfold Small at this
 omega
theorem iu {b:Bool} {l:List Nat} (h:Big l):¬Small (sgn b (wv l))∧(sgn b (wv l)<0 ↔ b=true):=by
 have h1:=h.2.1;have h2:=h.pos;unfold Small sgn at *;cases b <;> simp <;> omega
theorem bV (w:World) {z:Int} (h:Small z):IV w (cq z) z:=.inl ⟨rfl,h⟩
def cR (z:Int):Int:=if z<0 then -1 else if 0<z then 1 else 0
section
theorem sF (w:World) (a:Addr) (n c:Nat):(binOp .neq 153 (.slice (some a) n c) (.slice none 0 0)).run Tryz.prog w=.ok (.bool true) w:=run_neq_slice_nil_any w _ _ (some a) n c 0 0 Tryz.underlying153
theorem pB (w:World):(binOp .neq 153 (.slice none 0 0) (.slice none 0 0)).run Tryz.prog w=.ok (.bool false) w:=run_neq_slice_nil_any w _ _ none 0 0 0 0 Tryz.underlying153
theorem iw (w:World) (a:Addr) (n c:Nat):(binOp .eql 153 (.slice (some a) n c) (.slice none 0 0)).run Tryz.prog w=.ok (.bool false) w:=Lib.run_eql_slice_nil w _ _ (some a) n c 0 0 Tryz.underlying153
theorem dO (w:World):(binOp .eql 153 (.slice none 0 0) (.slice none 0 0)).run Tryz.prog w=.ok (.bool true) w:=Lib.run_eql_slice_nil w _ _ none 0 0 0 0 Tryz.underlying153
theorem eR (v:Value) (z:Int) (w:World) (h:IV w v z):
    Calls Tryz.prog 155 #[v] w fun e w'=>e=.returned (.int .i64 (cR z))∧Below w.heap.size w w':=by
 have kq:=sF;have kq0:=pB;rcases h with ⟨rfl,hs⟩ | ⟨b,g,off,cap,l,rfl,hw,hl,rfl⟩
 · unfold cq
   go_enter Tryz.func155,Tryz.ntmps155
   go_wp2
   all_goals go_ret
   all_goals exact ⟨ret_int (by unfold cR;grind),(ah _ _).alloc (ag _) _⟩
 · have hsg:=(iu (b:=b) hl).2;have hz:¬sgn b (wv l)=0:=fun e=>(iu (b:=b) hl).1 (by rw[e];unfold Small;omega)
   unfold iX;cases b
   · have HR:Hid (cR (sgn false (wv l))=1):=hid (by unfold cR;grind);clear hsg hz
     go_enter Tryz.func155,Tryz.ntmps155
     go_wp2
     go_ret
     exact ⟨ret_int HR.out.symm,(ah _ _).alloc (ag _) _⟩
   · have HR:Hid (cR (sgn true (wv l))= -1):=hid (by unfold cR;grind);clear hsg hz
     go_enter Tryz.func155,Tryz.ntmps155
     go_wp2
     go_ret
     exact ⟨ret_int HR.out.symm,(ah _ _).alloc (ag _) _⟩
theorem dB (v:Value) (z:Int) (w:World) (h:IV w v z):
    Calls Tryz.prog 157 #[v] w fun e w'=>e=.returned (.bool (decide (z=0)))∧Below w.heap.size w w':=by
 have kq:=iw;have kq0:=dO;rcases h with ⟨rfl,hs⟩ | ⟨b,g,off,cap,l,rfl,hw,hl,rfl⟩
 · unfold cq
   go_enter Tryz.func157,Tryz.ntmps157
   go_wp2
   go_ret
   exact ⟨ret_bool (by rw[Bool.eq_iff_iff];simp),(ah _ _).alloc (ag _) _⟩
 · have hn:=(iu (b:=b) hl).1;have HR:Hid (decide (sgn b (wv l)=0)=false):=hid (decide_eq_false fun e=>hn (by rw[e];unfold Small;omega));clear hn;unfold iX
   go_enter Tryz.func157,Tryz.ntmps157
   go_wp2
   go_ret
   exact ⟨ret_bool HR.out.symm,(ah _ _).alloc (ag _) _⟩
theorem eF (v:Value) (z:Int) (w:World) (h:IV w v z):
    Calls Tryz.prog 156 #[v] w fun e w'=>e=.returned (.bool (decide (z=1)))∧Below w.heap.size w w':=by
 have kq:=iw;have kq0:=dO;rcases h with ⟨rfl,hs⟩ | ⟨b,g,off,cap,l,rfl,hw,hl,rfl⟩
 · unfold cq
   go_enter Tryz.func156,Tryz.ntmps156
   go_wp2
   go_ret
   exact ⟨ret_bool (by rw[Bool.eq_iff_iff];simp),(ah _ _).alloc (ag _) _⟩
 · have hn:=(iu (b:=b) hl).1;have HR:Hid (decide (sgn b (wv l)=1)=false):=hid (decide_eq_false fun e=>hn (by rw[e];unfold Small;omega));clear hn;unfold iX
   go_enter Tryz.func156,Tryz.ntmps156
   go_wp2
   go_ret
   exact ⟨ret_bool HR.out.symm,(ah _ _).alloc (ag _) _⟩
def dT (z:Int) (w:World) (e:Ending) (w':World):Prop:=∃v,e=.returned v∧IV w' v z∧Below w.heap.size w w'
theorem tW {z:Int} (h:Small z):Small (-z):=by unfold Small at *;omega
theorem xv (b:Bool) (n:Nat):sgn (!b) n= -sgn b n:=by cases b <;> simp[sgn]
theorem ol (v:Value) (z:Int) (w:World) (h:IV w v z):Calls Tryz.prog 207 #[v] w (dT (-z) w):=by
 have kq:=iw;have kq0:=dO;rcases h with ⟨rfl,hs⟩ | ⟨b,g,off,cap,l,rfl,hw,hl,rfl⟩
 · have h1: -9223372036854775807≤z:=hs.1;have h2:z≤9223372036854775807:=hs.2;unfold cq
   go_enter Tryz.func207,Tryz.ntmps207
   go_wp2
   exact bodyPost_ret (v:=cq (-z)) (by simp[results,Tryz.results207,go_sem,cq]) rfl ⟨_,rfl,bV _ (tW hs),((ah _ _).alloc (ag _) _).alloc (by simp) _⟩
 · unfold iX
   go_enter Tryz.func207,Tryz.ntmps207
   go_wp2
   have hbl:Below w.heap.size w ((w.alloc (.cells #[.int .i64 0,.bool b,.slice (some ⟨g,off,none⟩) l.length cap] 155)).alloc (.cells #[.int .i64 0,.bool !b,.slice (some ⟨g,off,none⟩) l.length cap] 155)):=
    ((ah _ _).alloc (ag _) _).alloc (by simp) _
   exact bodyPost_ret (v:=iX (!b) (some ⟨g,off,none⟩) l.length cap) (by simp[results,Tryz.results207,go_sem,iX]) rfl
    ⟨_,rfl,.inr ⟨!b,g,off,cap,l,rfl,hw.far hbl,hl,(xv b _).symm⟩,hbl⟩
theorem IV.alloc_of {w:World} {v:Value} {z:Int} (h:IV w v z) (o:Obj):IV (w.alloc o) v z:=h.far ((ah _ _).alloc (ag _) _)
theorem IV.store {w:World} {v:Value} {z:Int} (h:IV w v z) {p:Addr} {cs:Array Value} {t:TypeId} {fr:Nat×Nat} (hp:w.heap[p.block]? =some (.cells cs t fr)) (ht:t≠235) (u:Value):IV (w.setCell p u) v z:=by
 rcases h with h | ⟨b,g,off,cap,l,h1,h2,h3,h4⟩
 · exact .inl h
 · exact .inr ⟨b,g,off,cap,l,h1,h2.store hp ht u,h3,h4⟩
theorem heap_set {w:World} {R:Nat} {cs:Array Value} {t:TypeId} {fr:Nat×Nat} (h:w.heap[R]? =some (.cells cs t fr)) (i:Nat) (u:Value):(w.setCell ⟨R,i,none⟩ u).heap[R]? =some (.cells (cs.setIfInBounds i u) t fr):=by
 simp[World.setCell,Array.getElem?_modify,h]
theorem ac {w:World} {R:Nat} {cs:Array Value} {t:TypeId} {fr:Nat×Nat} (h:w.heap[R]? =some (.cells cs t fr)) (i:Nat):w.cell? ⟨R,i,none⟩=cs[i]? :=cell_of_row w R i cs t fr h
theorem aM {w:World} {R:Nat} {cs:Array Value} {t:TypeId} (h:w.heap[R]? =some (.cells cs t (0,0))) (i:Nat):w.frozen? ⟨R,i,none⟩=false:=by simp[World.frozen?,h]
theorem aT {w:World} {v:Value} {z:Int} (h:IV w v z):∃s b ao n c,v=.agg #[.int .i64 s,.bool b,.slice ao n c]:=by
 rcases h with ⟨rfl,_⟩ | ⟨b,g,off,cap,l,rfl,_⟩
 · exact ⟨_,_,_,_,_,rfl⟩
 · exact ⟨_,_,_,_,_,rfl⟩
theorem IV.set3 {w:World} {v:Value} {z:Int} (h:IV w v z) {R:Nat} {cs:Array Value} (hR:w.heap[R]? =some (.cells cs 155 (0,0))) (x y u:Value):IV (set3 w R x y u) v z:=
 ((h.store (p:=⟨R,0,none⟩) hR (by decide) x).store (p:=⟨R,1,none⟩) (heap_set hR 0 x) (by decide) y).store (p:=⟨R,2,none⟩) (heap_set (heap_set hR 0 x) 1 y) (by decide) u
theorem ct (w:World) (o o':Obj):((w.alloc o).alloc o').heap[w.heap.size+1]? =some o':=by
 have:=heap_alloc_new (w.alloc o) o'
 simpa using this
theorem dP {fn:Func} {t:Tmp} {a:Act} {w w2:World} {R:Nat} {z s:Int} {b:Bool} {ao:Option Addr} {n c:Nat} {x0 x1 x2:Value} (hres:fn.results=#[.cell t 155]) (hd:a.defers=[]) (ht:a.tmps.getD t undef=.pointer (some ⟨R,0,none⟩))
    (hR:w2.heap[R]? =some (.cells #[x0,x1,x2] 155 (0,0))) (hv:IV w2 (.agg #[.int .i64 s,.bool b,.slice ao n c]) z) (hb:Below w.heap.size w w2) (hRB:w.heap.size≤R):
    bodyPost Tryz.prog fn (dT z w) .ret a (((w2.setCell ⟨R,0,none⟩ (.int .i64 s)).setCell ⟨R,1,none⟩ (.bool b)).setCell ⟨R,2,none⟩ (.slice ao n c)):=by
 have h3:=heap_set (heap_set (heap_set hR 0 (.int .i64 s)) 1 (.bool b)) 2 (.slice ao n c);have k0:=ac h3 0;have k1:=ac h3 1;have k2:=ac h3 2;have hiv:=hv.set3 hR (.int .i64 s) (.bool b) (.slice ao n c);have hbl:=((hb.setCell (show w.heap.size≤(⟨R,0,none⟩:Addr).block from hRB) (.int .i64 s)).setCell (show w.heap.size≤(⟨R,1,none⟩:Addr).block from hRB) (.bool b)).setCell (show w.heap.size≤(⟨R,2,none⟩:Addr).block from hRB) (.slice ao n c);unfold set3 at hiv;generalize ((w2.setCell ⟨R,0,none⟩ (.int .i64 s)).setCell ⟨R,1,none⟩ (.bool b)).setCell ⟨R,2,none⟩ (.slice ao n c)=w3 at *;simp only[Array.setIfInBounds,Array.set,List.set,Array.size,List.length] at k0 k1 k2
 simp at k0 k1 k2
 refine bodyPost_ret (v:=.agg #[.int .i64 s,.bool b,.slice ao n c]) ?_ hd ⟨_,rfl,hiv,hbl⟩;have ht':a.tmps[t]?.getD undef=.pointer (some ⟨R,0,none⟩):=by simpa using ht
 simp[results,hres,go_sem,ht',k0,k1,k2]
theorem nc:wv [0,2147483648]=9223372036854775808:=by rw[dM,dM,cZ,aW]
theorem xw:sgn true (wv [0,2147483648])= -9223372036854775808:=by rw[nc];rfl
theorem sG:Big [0,2147483648]:=by
 refine ⟨⟨Ws.cons bw (Ws.cons (by rw[aW];omega) Ws.nil),fun x hx=>by simp at hx;omega⟩,?_,by simp⟩;rw[nc];unfold Small;omega
theorem iI (z:Int) (w:World) (h1: -9223372036854775808≤z) (h2:z≤9223372036854775807):
    Calls Tryz.prog 212 #[.int .i64 z] w (dT z w):=by
 by_cases hz:z= -9223372036854775808
 · have hzb:(z== -9223372036854775808)=true:=by simp[hz]
   have HZ:=hid hz;clear hz
   go_enter Tryz.func212,Tryz.ntmps212
   go_wp2
   have hbl:Below w.heap.size w ((w.alloc (.cells #[.int .i64 0,.bool true,.slice (some ⟨w.heap.size+1,0,none⟩) 2 2] 155)).alloc (.cells #[.int .u32 0,.int .u32 2147483648] 235)):=
    ((ah _ _).alloc (ag _) _).alloc (by simp) _
   have hws:=WS.new (w.alloc (.cells #[.int .i64 0,.bool true,.slice (some ⟨w.heap.size+1,0,none⟩) 2 2] 155)) [0,2147483648] sG.1.1 (by simp)
   exact bodyPost_ret (v:=iX true (some ⟨w.heap.size+1,0,none⟩) 2 2) (by simp[results,Tryz.results212,go_sem,iX]) rfl
    ⟨_,rfl,.inr ⟨true,w.heap.size+1,0,2,[0,2147483648],rfl,by simpa [bZ] using hws,sG,by rw[HZ.out,xw]⟩,hbl⟩
 · have hzb:(z== -9223372036854775808)=false:=by simp[hz]
   have hs:Small z:=by unfold Small;omega
   clear hz
   go_enter Tryz.func212,Tryz.ntmps212
   go_wp2
   exact bodyPost_ret (v:=cq z) (by simp[results,Tryz.results212,go_sem,cq]) rfl ⟨_,rfl,bV _ hs,(ah _ _).alloc (ag _) _⟩
theorem lx (v:Value) (z:Int) (w:World) (h:IV w v z):Calls Tryz.prog 189 #[v] w (dT z.natAbs w):=by
 have hsg:=fun (o o':Obj)=>eR v z ((w.alloc o).alloc o') ((h.alloc_of o).alloc_of o')
 have hng:=fun (w':World) (hb:Below w.heap.size w w')=>ol v z w' (h.far hb)
 have HH:=hid h;obtain ⟨s,b,ao,n,c,rfl⟩:=aT h;clear h
 by_cases hz:z<0
 · have h1:cR z= -1:=by unfold cR;rw[if_pos hz]
   rw[h1] at hsg;have HZ:Hid (-z=(z.natAbs:Int)):=hid (by omega);clear h1
   go_enter Tryz.func189,Tryz.ntmps189
   go_wp2_with fail
   refine (hsg _ _).mono ?_;rintro e w1 ⟨rfl,hb⟩;obtain ⟨hc,hf⟩:=fL hb;have hz:w.heap.size+1<w1.heap.size:=by have:=hb.size;simp at this;omega
   have HB:=hid (((ah w.heap.size w).alloc (ag _) _).alloc (by simp) _ |>.trans (hb.mono (by simp;omega)));have HR:=hid ((hb.block (w.heap.size+1) (by simp)).trans (ct w _ _));clear hb
   go_wp2_with fail
   refine (hng _ HB.out).mono ?_;rintro e w2 ⟨v2,rfl,hv2,hb2⟩;have HV2:=hid hv2;obtain ⟨s2,b2,a2,n2,c2,rfl⟩:=aT hv2;obtain ⟨hc2,hf2⟩:=fL hb2;have HB2:=hid (HB.out.trans (hb2.mono HB.out.size));have HR2:=hid ((hb2.block (w.heap.size+1) hz).trans HR.out);clear hb2 hv2
   go_wp2
   rw[←HZ.out];exact dP Tryz.results189 rfl rfl HR2.out HV2.out HB2.out (by omega)
 · have h1:¬cR z<0:=by unfold cR;grind
   have HZ:Hid (z=(z.natAbs:Int)):=hid (by omega)
   go_enter Tryz.func189,Tryz.ntmps189
   go_wp2_with fail
   refine (hsg _ _).mono ?_;rintro e w1 ⟨rfl,hb⟩;obtain ⟨hc,hf⟩:=fL hb;have hz:w.heap.size+1<w1.heap.size:=by have:=hb.size;simp at this;omega
   have HB:=hid (((ah w.heap.size w).alloc (ag _) _).alloc (by simp) _ |>.trans (hb.mono (by simp;omega)));have HR:=hid ((hb.block (w.heap.size+1) (by simp)).trans (ct w _ _));clear hb
   go_wp2
   rw[←HZ.out];exact dP Tryz.results189 rfl rfl HR.out (HH.out.far HB.out) HB.out (by omega)
def tX (z:Int) (w:World) (e:Ending) (w':World):Prop:=
 ∃v l,e=.returned (.tuple #[.bool (decide (z<0)),v])∧WV w' v l∧dS l∧wv l=z.natAbs∧l.length≤1000000∧Below w.heap.size w w'
theorem ix (v:Value) (z:Int) (w:World) (h:IV w v z):Calls Tryz.prog 216 #[v] w (tX z w):=by
 have kq:=sF;have kq0:=pB;rcases h with ⟨rfl,hs⟩ | ⟨b,g,off,cap,l,rfl,hw,hl,rfl⟩
 · have h1: -9223372036854775807≤z:=hs.1;have h2:z≤9223372036854775807:=hs.2;have hwo:=fun o:Obj=>kC z.natAbs (w.alloc o) (by omega)
   unfold cq
   by_cases hz:z<0
   · have e1:(-z:Int)=(z.natAbs:Int):=by omega
     have HE:=hid e1;clear e1;have hd:decide (z<0)=true:=by simpa using hz
     go_enter Tryz.func216,Tryz.ntmps216
     have hwo2:∀o:Obj,Calls Tryz.prog 241 #[.int .u64 (-z)] (w.alloc o) (j2 z.natAbs (w.alloc o)):=fun o=>by rw[HE.out];exact hwo o
     go_wp2_with fail
     refine (hwo2 _).mono ?_;rintro e w' ⟨v,l,rfl,hwv,hn,hv,hlen,hb⟩
     go_wp2
     go_ret2
     exact ⟨_,l,oi (congrArg Value.bool hd.symm) rfl,hwv,hn,hv,by omega,((ah _ _).alloc (ag _) _).trans (hb.mono (by simp))⟩
   · have e1:(z:Int)=(z.natAbs:Int):=by omega
     have HE:=hid e1;clear e1;have hd:decide (z<0)=false:=by simpa using hz
     have hz0:0≤z:=by omega
     have hwo2:∀o:Obj,Calls Tryz.prog 241 #[.int .u64 z] (w.alloc o) (j2 z.natAbs (w.alloc o)):=fun o=>by
      have:=hwo o;rw[←HE.out] at this;exact this
     go_enter Tryz.func216,Tryz.ntmps216
     go_wp2_with fail
     refine (hwo2 _).mono ?_;rintro e w' ⟨v,l,rfl,hwv,hn,hv,hlen,hb⟩
     go_wp2
     go_ret2
     exact ⟨_,l,oi (congrArg Value.bool hd.symm) rfl,hwv,hn,hv,by omega,((ah _ _).alloc (ag _) _).trans (hb.mono (by simp))⟩
 · have hsg:=(iu (b:=b) hl).2;have hd:decide (sgn b (wv l)<0)=b:=by cases b <;> simp[hsg]
   have HD:=hid hd;have habs:(sgn b (wv l)).natAbs=wv l:=by cases b <;> simp[sgn]
   have HA:=hid habs;clear hsg hd habs;unfold iX
   go_enter Tryz.func216,Tryz.ntmps216
   go_wp2
   go_quiet (fail)
   go_wp2
   go_ret2
   have hbl:Below w.heap.size w ((w.alloc (.cells #[.int .i64 0,.bool b,.slice (some ⟨g,off,none⟩) l.length cap] 155))):=(ah _ _).alloc (ag _) _;exact ⟨_,l,oi (congrArg Value.bool HD.out.symm) rfl,⟨_,g,off,cap,rfl,(hw.far hbl).drewN _⟩,hl.1,HA.out.symm,hl.2.2,aO hbl _⟩
end
end Go.Proofs.YtapdbeaoakcjeaaGreatDoor
namespace Go.Proofs.YtapdbeaoakcjeaaGreatDoor
open Go.RowKit Nmx
theorem ly (n x:Nat) (hn:n<4294967296) (hx:x<4294967296):bits .or .u64 ((n:Int)*4294967296) (x:Int)=((x+4294967296*n:Nat):Int):=by
 have e:(n:Int)*4294967296=((n*4294967296:Nat):Int):=by omega
 rw[e,u64_or_nat _ _ (by omega) (by omega),nat_join 32 _ _ (by omega) (by omega)]
 omega
theorem tY {t:List Nat} (ht:Ws t) (h2:t.length≤2) {k:Nat} (hk:0<k) (hl:k≤t.length):wv (t.drop k)<4294967296∧t.getD (k-1) 0<4294967296∧wv (t.drop (k-1))=t.getD (k-1) 0+4294967296*wv (t.drop k):=by
 have h1:=eL _ (ht.drop k);have h3:=ht.getD (k-1);have h4:=cM t (k-1) (by omega);rw[show k-1+1=k by omega] at h4;have h5:BB ^ (t.drop k).length≤BB ^ 1:=Nat.pow_le_pow_right bw (by rw[List.length_drop];omega);rw[Nat.pow_one] at h5;rw[aW] at *;exact ⟨by omega,h3,h4⟩
theorem yV {t:List Nat} (ht:Ws t) (h2:t.length≤2):wv t<18446744073709551616:=by
 have h1:=eL _ ht;have h5:BB ^ t.length≤BB ^ 2:=Nat.pow_le_pow_right bw h2;rw[aW] at *
 omega
theorem vu {t:List Nat} (ht:dS t) (h2:2<t.length):¬Small (wv t):=by
 have h1:=ja t ht (fun e=>by subst e;simp at h2);have h5:BB ^ 2≤BB ^ (t.length-1):=Nat.pow_le_pow_right bw (by omega);rw[aW] at *;unfold Small
 omega
theorem vv (n:Nat):sgn true n= -(n:Int):=rfl
theorem tZ (n:Nat):sgn false n=(n:Int):=rfl
theorem j3 {b:Bool} {n:Nat} (h:n≤9223372036854775807):Small (sgn b n):=by unfold Small;cases b <;> simp[sgn] <;> omega
section
theorem cI (neg:Bool) (v:Value) (l:List Nat) (w:World) (h:WV w v l) (hl:l.length≤1000000):Calls Tryz.prog 201 #[.bool neg,v] w (dT (sgn neg (wv l)) w):=by
 obtain ⟨ao,g,off,cap,rfl,hw⟩:=h;have htr:=fun o:Obj=>jk ao g off cap l (w.alloc o) (hw.far ((ah _ _).alloc (ag _) _))
 have htn:=lJ l hw.ws;have hwv:=fI l;have htl:=fJ l;have hW:WS w ao g off cap (cJ l):=by rw[fZ];exact hw.take _
 rw[←hwv];clear hwv;have hcap:=hw.most;have hle:=hw.le;clear hw;generalize cJ l=t at *;have HW:=hid hW;have HN:=hid htn;clear hW htn
 by_cases h2:t.length≤2
 · have hlt:=yV HN.out.1 h2;have HLT:=hid hlt;clear hlt
   go_enter Tryz.func201,Tryz.ntmps201
   go_wp2_with fail
   refine (htr _).mono ?_;rintro e w1 ⟨rfl,rfl⟩
   go_wp2
   go_loop [5,6] (fun n i=>∃k:Nat,k≤t.length∧n=.int .u64 (wv (t.drop k))∧i=.int .i64 ((k:Int)-1)) (fun _ i=>(intOf i+1).toNat)
   case atStart=>exact ⟨t.length,ag _,by rw[List.drop_of_length_le (ag _)];rfl,rfl⟩
   case round=>
    obtain ⟨k,hk,rfl,rfl⟩:=hrel;rcases Nat.eq_zero_or_pos k with h0 | h0
    · subst h0;have e0:t.drop 0=t:=List.drop_zero;rw[e0];clear e0;have HM:=HLT.out
      by_cases hs:wv t≤9223372036854775807
      · have HS:=hid (j3 (b:=neg) hs);clear HLT;generalize hn:wv t=n at *;clear hn;cases neg
        · have HE:=hid (tZ n)
          go_wp2
          rw[HE.out];exact bodyPost_ret (v:=cq n) (by simp[results,Tryz.results201,go_sem,cq]) rfl ⟨_,rfl,bV _ HS.out,(ah _ _).alloc (ag _) _⟩
        · have HE:=hid (vv n)
          go_wp2
          rw[HE.out];exact bodyPost_ret (v:=cq (-n)) (by simp[results,Tryz.results201,go_sem,cq]) rfl ⟨_,rfl,bV _ HS.out,(ah _ _).alloc (ag _) _⟩
      · have hbig:Big t:=⟨HN.out,by unfold Small;omega,by omega⟩
        have hpos:0<cap:=by
         have h1:=HW.out.le;rcases Nat.eq_zero_or_pos cap with h | h
         · have:t=[]:=List.length_eq_zero_iff.1 (by omega);subst this;exact absurd (aE _) hs
         · exact h
        have had:=HW.out.ad hpos;subst had;have HBg:=hid hbig;clear hbig HLT;generalize hn:wv t=n at *;have HE:=hid hn;clear hn
        go_wp2
        have hbl:Below w.heap.size w (w.alloc (.cells #[.int .i64 0,.bool neg,.slice (some ⟨g,off,none⟩) t.length cap] 155)):=(ah _ _).alloc (ag _) _
        exact bodyPost_ret (v:=iX neg (some ⟨g,off,none⟩) t.length cap) (by simp[results,Tryz.results201,go_sem,iX]) rfl
         ⟨_,rfl,.inr ⟨neg,g,off,cap,t,rfl,HW.out.far hbl,HBg.out,by rw[HE.out]⟩,hbl⟩
    · obtain ⟨h3,h4,h5⟩:=tY HN.out.1 h2 h0 hk;have hca:=HW.out.at_ (k-1) (by omega);have hg:=HW.out.lt (by have:=HW.out.le;omega);have had:=HW.out.ad (by have:=HW.out.le;omega);subst had;have HD:=hid h5;clear h5;generalize t.getD (k-1) 0=x at *;generalize hn:wv (t.drop k)=n at *;clear hn;have hor:=ly n x h3 h4;have hp:(0:Int)≤(k:Int)-1:=by omega
      have hi2:((k:Int)-1).toNat=k-1:=by omega
      have hi3:(k:Int)-1<(t.length:Int):=by omega
      go_wp2
      go_round
      case rel=>exact ⟨k-1,by omega,by rw[HD.out];congr 1,by congr 1;omega⟩
      case measure=>simp[intOf];omega
 · have hbig:Big t:=⟨HN.out,vu HN.out (by omega),by omega⟩
   have had:=HW.out.ad (by have:=HW.out.le;omega);subst had;have HBg:=hid hbig;clear hbig
   go_enter Tryz.func201,Tryz.ntmps201
   go_wp2_with fail
   refine (htr _).mono ?_;rintro e w1 ⟨rfl,rfl⟩
   go_wp2
   have hbl:Below w.heap.size w (w.alloc (.cells #[.int .i64 0,.bool neg,.slice (some ⟨g,off,none⟩) t.length cap] 155)):=(ah _ _).alloc (ag _) _
   exact bodyPost_ret (v:=iX neg (some ⟨g,off,none⟩) t.length cap) (by simp[results,Tryz.results201,go_sem,iX]) rfl
    ⟨_,rfl,.inr ⟨neg,g,off,cap,t,rfl,HW.out.far hbl,HBg.out,rfl⟩,hbl⟩
end
end Go.Proofs.YtapdbeaoakcjeaaGreatDoor
namespace Go.Proofs.YtapdbeaoakcjeaaGreatDoor
open Go.RowKit Nmx
theorem vw (l:List Nat) (i x:Nat):(bZ l).toArray.setIfInBounds i (.int .u32 (x:Int))=(bZ (l.set i x)).toArray:=by
 simp[bZ,List.map_set]
theorem oo:(Tryz.prog.info? 235).map (fun i=>(i.zero,i.size,i.bytes))=some (some (.int .u32 0),1,4):=by kernel_rfl
theorem vx (n:Nat):madeCells (Value.cells (.int .u32 0)) (n*1)=(bZ (List.replicate n 0)).toArray:=by
 apply Array.ext
 · simp[madeCells,bZ]
 · intro i h1 h2
   simp[madeCells,bZ,Value.cells,Nat.mod_one]
theorem eS (n:Nat) (hn:n≤1000000000) (z:Int) (hz:z=n) (W:World):
    (Instr.makeSlice 153 (.int .i64 z) (.int .i64 z)).run Tryz.prog W=.ok (.slice (some ⟨W.heap.size,0,none⟩) n n) (W.alloc (.cells (bZ (List.replicate n 0)).toArray 235)):=by
 subst hz;obtain ⟨i0,hi,hz0,hz1,hz2⟩:=info_parts oo;have hr:=run_make (P:=Tryz.prog) W 153 235 i0 _ Tryz.underlying153 hi hz0 .i64 .i64 n n (by omega) (by omega) (by rw[hz2];omega) (by omega);rw[hz1,Int.toNat_natCast,vx] at hr;exact hr
def WB (w:World) (g:Nat) (l:List Nat):Prop:=w.heap[g]? =some (.cells (bZ l).toArray 235 (0,0))
theorem WB.set {w:World} {g:Nat} {l:List Nat} (h:WB w g l) (i x:Nat):WB (w.setCell ⟨g,i,none⟩ (.int .u32 (x:Int))) g (l.set i x):=by
 unfold WB;rw[←vw];exact heap_set h i _
theorem WB.cell {w:World} {g:Nat} {l:List Nat} (h:WB w g l) (i:Nat) (hi:i<l.length):w.cell? ⟨g,i,none⟩=some (.int .u32 ((l.getD i 0:Nat):Int)):=by
 rw[ac h i];simpa using lu l i hi
theorem WB.fz {w:World} {g:Nat} {l:List Nat} (h:WB w g l) (i:Nat):w.frozen? ⟨g,i,none⟩=false:=aM h i
theorem WB.new (w:World) (l:List Nat):WB (w.alloc (.cells (bZ l).toArray 235)) w.heap.size l:=heap_alloc_new w _
theorem WB.ws {w:World} {g:Nat} {l:List Nat} (h:WB w g l) (hl:Ws l) (n:Nat) (hn:n=l.length) (hm:n≤1000000000):WV w (.slice (some ⟨g,0,none⟩) n n) l:=by
 subst hn;exact ⟨_,g,0,_,rfl,ag _,by omega,fun _=>rfl,(fun h=>by cases h),fun _=>⟨_,_,h⟩,fun i hi=>by rw[Nat.zero_add];exact h.cell i hi,hl⟩
theorem WS.keep {w w':World} {ao:Option Addr} {g off cap:Nat} {l:List Nat} (h:WS w ao g off cap l) (hb:Below w.heap.size w w') {i:Nat} (hi:i<l.length):w'.cell? ⟨g,off+i,none⟩=some (.int .u32 ((l.getD i 0:Nat):Int)):=
 (h.far hb).at_ i hi
theorem cN {l:List Nat} {i:Nat} (h:Ws l):((l.getD i 0:Nat):Int)≤4294967295:=by have:=h.getD i;rw[aW] at this;omega
theorem jl (t:Nat) (z:Int) (hz:z=t):z / 4294967296=((t / BB:Nat):Int):=by rw[aW];omega
theorem gH (t:Nat) (z:Int) (hz:z=t):z % 4294967296=((t % BB:Nat):Int):=by rw[aW];omega
theorem iy {l:List Nat} {k:Nat} (h:¬k<l.length):l.getD k 0=0:=by rw[aw,List.getElem?_eq_none (by omega)];rfl
section
def ot (x y la lb:Nat) (w:World) (e:Ending) (w':World):Prop:=∃v l,e=.returned v∧WV w' v l∧wv l=x+y∧l.length≤max la lb+1∧Below w.heap.size w w'
theorem pC (ao:Option Addr) (g off cap:Nat) (a:List Nat) (bo:Option Addr) (g' off' cap':Nat) (b:List Nat) (w:World) (ha:WS w ao g off cap a) (hb:WS w bo g' off' cap' b) (hla:a.length≤1000000) (hab:b.length≤a.length):
    Calls Tryz.prog 244 #[.slice ao a.length cap,.slice bo b.length cap'] w (ot (wv a) (wv b) a.length b.length w):=by
 have hal:=ha.le;have ham:=ha.most;have hbl:=hb.le;have hbm:=hb.most;have HA:=hid ha;have HB:=hid hb;clear ha hb;have hmk:=eS (a.length+1) (by omega) ((a.length:Int)+1) (by omega);have h1':¬(a.length:Int)<(b.length:Int):=by omega
 have hst:=WB.new w (List.replicate (a.length+1) 0);have hbel:Below w.heap.size w (w.alloc (.cells (bZ (List.replicate (a.length+1) 0)).toArray 235)):=(ah _ _).alloc (ag _) _;have HST:=hid hst;have HBE:=hid hbel;clear hst hbel
 go_enter Tryz.func244,Tryz.ntmps244
 go_wp2
 go_loopw [6,22] (fun c i wr=>∃(k cc:Nat) (l:List Nat),k≤a.length∧i=.int .i64 k∧c=.int .u64 cc∧AddR a b l k cc∧WB wr w.heap.size l∧Below w.heap.size w wr) (fun _ i _=>a.length-(intOf i).toNat)
 case atStart=>exact ⟨0,0,_,aE _,rfl,rfl,AddR.start a b,HST.out,HBE.out⟩
 case round=>
  obtain ⟨k,cc,l,hk,rfl,rfl,hadd,hwb,hbel⟩:=hrel;have HR:=hid hadd;have HW:=hid hwb;have HBl:=hid hbel;have hc1:(cc:Int)≤1:=by have:=hadd.c1;omega
  have hc0:(0:Int)≤cc:=by omega
  have hll:=hadd.len;clear hadd hwb hbel HST HBE;have hcw:=HW.out.cell k (by omega);have hfw:=HW.out.fz k;have hsize:=HBl.out.size
  by_cases hlt:k<a.length
  · have had:=HA.out.ad (by omega);subst had;have hca:=HA.out.keep HBl.out hlt;have hx:=cN (i:=k) HA.out.ws;have hx0:(0:Int)≤((a.getD k 0:Nat):Int):=by omega
    have HS:=hid (fun t ht=>HR.out.step HA.out.ws HB.out.ws hlt t ht)
    by_cases hlb:k<b.length
    · have hbd:=HB.out.ad (by omega);subst hbd;have hcb:=HB.out.keep HBl.out hlb;have hy:=cN (i:=k) HB.out.ws;have hy0:(0:Int)≤((b.getD k 0:Nat):Int):=by omega
      have hllb:(k:Int)<(b.length:Int):=by omega
      generalize a.getD k 0=x at *;generalize b.getD k 0=y at *;generalize l.getD k 0=z at *
      go_wp2
      rw[jl (x+cc+y) _ (by omega),gH (x+cc+y) _ (by omega)];refine ⟨⟨k+1,(x+cc+y) / BB,l.set k ((x+cc+y) % BB),by omega,by go_num,rfl,HS.out _ rfl,HW.out.set k _,HBl.out.setCell (ag _) _⟩,?_⟩
      simp[intOf];omega
    · have hllb:¬(k:Int)<(b.length:Int):=by omega
      rw[iy hlb] at HS;generalize a.getD k 0=x at *;generalize l.getD k 0=z at *
      go_wp2
      rw[jl (x+cc) _ (by omega),gH (x+cc) _ (by omega)];refine ⟨⟨k+1,(x+cc) / BB,l.set k ((x+cc) % BB),by omega,by go_num,rfl,HS.out _ rfl,HW.out.set k _,HBl.out.setCell (ag _) _⟩,?_⟩
      simp[intOf];omega
  · obtain rfl:k=a.length:=by omega
    obtain ⟨d1,d2,d3⟩:=HR.out.done (by omega);have D1:=hid d1;have D2:=hid d2;have D3:=hid d3;clear d1 d2 d3
    go_wp2
    go_ret
    exact ⟨_,_,rfl,(HW.out.set a.length cc).ws D2.out _ (by have:=D3.out;omega) (by omega),D1.out,by rw[D3.out];omega,HBl.out.setCell (ag _) _⟩
theorem pD (ao:Option Addr) (g off cap:Nat) (a:List Nat) (bo:Option Addr) (g' off' cap':Nat) (b:List Nat) (w:World) (ha:WS w ao g off cap a) (hb:WS w bo g' off' cap' b) (hlb':b.length≤1000000) (hab:a.length<b.length):
    Calls Tryz.prog 244 #[.slice ao a.length cap,.slice bo b.length cap'] w (ot (wv a) (wv b) a.length b.length w):=by
 have hal:=ha.le;have ham:=ha.most;have hbl:=hb.le;have hbm:=hb.most;have HA:=hid ha;have HB:=hid hb;clear ha hb;have hmk:=eS (b.length+1) (by omega) ((b.length:Int)+1) (by omega);have h1':(a.length:Int)<(b.length:Int):=by omega
 have hst:=WB.new w (List.replicate (b.length+1) 0);have hbel:Below w.heap.size w (w.alloc (.cells (bZ (List.replicate (b.length+1) 0)).toArray 235)):=(ah _ _).alloc (ag _) _;have HST:=hid hst;have HBE:=hid hbel;clear hst hbel
 go_enter Tryz.func244,Tryz.ntmps244
 go_wp2
 go_loopw [6,22] (fun c i wr=>∃(k cc:Nat) (l:List Nat),k≤b.length∧i=.int .i64 k∧c=.int .u64 cc∧AddR b a l k cc∧WB wr w.heap.size l∧Below w.heap.size w wr) (fun _ i _=>b.length-(intOf i).toNat)
 case atStart=>exact ⟨0,0,_,aE _,rfl,rfl,AddR.start b a,HST.out,HBE.out⟩
 case round=>
  obtain ⟨k,cc,l,hk,rfl,rfl,hadd,hwb,hbel⟩:=hrel;have HR:=hid hadd;have HW:=hid hwb;have HBl:=hid hbel;have hc1:(cc:Int)≤1:=by have:=hadd.c1;omega
  have hc0:(0:Int)≤cc:=by omega
  have hll:=hadd.len;clear hadd hwb hbel HST HBE;have hcw:=HW.out.cell k (by omega);have hfw:=HW.out.fz k;have hsize:=HBl.out.size
  by_cases hlt:k<b.length
  · have had:=HB.out.ad (by omega);subst had;have hca:=HB.out.keep HBl.out hlt;have hx:=cN (i:=k) HB.out.ws;have hx0:(0:Int)≤((b.getD k 0:Nat):Int):=by omega
    have HS:=hid (fun t ht=>HR.out.step HB.out.ws HA.out.ws hlt t ht)
    by_cases hlb:k<a.length
    · have hbd:=HA.out.ad (by omega);subst hbd;have hcb:=HA.out.keep HBl.out hlb;have hy:=cN (i:=k) HA.out.ws;have hy0:(0:Int)≤((a.getD k 0:Nat):Int):=by omega
      have hllb:(k:Int)<(a.length:Int):=by omega
      generalize b.getD k 0=x at *;generalize a.getD k 0=y at *;generalize l.getD k 0=z at *
      go_wp2
      rw[jl (x+cc+y) _ (by omega),gH (x+cc+y) _ (by omega)];refine ⟨⟨k+1,(x+cc+y) / BB,l.set k ((x+cc+y) % BB),by omega,by go_num,rfl,HS.out _ rfl,HW.out.set k _,HBl.out.setCell (ag _) _⟩,?_⟩
      simp[intOf];omega
    · have hllb:¬(k:Int)<(a.length:Int):=by omega
      rw[iy hlb] at HS;generalize b.getD k 0=x at *;generalize l.getD k 0=z at *
      go_wp2
      rw[jl (x+cc) _ (by omega),gH (x+cc) _ (by omega)];refine ⟨⟨k+1,(x+cc) / BB,l.set k ((x+cc) % BB),by omega,by go_num,rfl,HS.out _ rfl,HW.out.set k _,HBl.out.setCell (ag _) _⟩,?_⟩
      simp[intOf];omega
  · obtain rfl:k=b.length:=by omega
    obtain ⟨d1,d2,d3⟩:=HR.out.done (by omega);have D1:=hid d1;have D2:=hid d2;have D3:=hid d3;clear d1 d2 d3
    go_wp2
    go_ret
    exact ⟨_,_,rfl,(HW.out.set b.length cc).ws D2.out _ (by have:=D3.out;omega) (by omega),by rw[D1.out,Nat.add_comm],by rw[D3.out];omega,HBl.out.setCell (ag _) _⟩
theorem ou (x y:Value) (a b:List Nat) (w:World) (ha:WV w x a) (hb:WV w y b) (hla:a.length≤1000000) (hlb:b.length≤1000000):Calls Tryz.prog 244 #[x,y] w (ot (wv a) (wv b) a.length b.length w):=by
 obtain ⟨ao,g,off,cap,rfl,h1⟩:=ha;obtain ⟨bo,g',off',cap',rfl,h2⟩:=hb
 by_cases h:a.length<b.length
 · exact pD ao g off cap a bo g' off' cap' b w h1 h2 hlb h
 · exact pC ao g off cap a bo g' off' cap' b w h1 h2 hla (by omega)
end
end Go.Proofs.YtapdbeaoakcjeaaGreatDoor
namespace Go.Proofs.YtapdbeaoakcjeaaGreatDoor
open Go.RowKit Nmx
theorem vy (x y c:Nat) (hx:x<4294967296) (hy:y<4294967296) (hc:c≤1):
    ∃T1 T2:Nat,IntKind.u64.wrap ((x:Int)-(c:Int))=T1∧IntKind.u64.wrap ((T1:Int)-(y:Int))=T2∧T1<18446744073709551616∧T2<18446744073709551616∧T2 / 9223372036854775808≤1∧T2 % 4294967296+y+c=x+4294967296*(T2 / 9223372036854775808):=by
 by_cases h1:x<c
 · by_cases h2:x<y+c
   · exact ⟨18446744073709551615,18446744073709551616+x-y-c,by rw[IntKind.wrap_u64];omega,by rw[IntKind.wrap_u64];omega,by omega,by omega,by omega,by omega⟩
   · omega
 · by_cases h2:x<y+c
   · exact ⟨x-c,18446744073709551616+x-y-c,by rw[IntKind.wrap_u64];omega,by rw[IntKind.wrap_u64];omega,by omega,by omega,by omega,by omega⟩
   · exact ⟨x-c,x-y-c,by rw[IntKind.wrap_u64];omega,by rw[IntKind.wrap_u64];omega,by omega,by omega,by omega,by omega⟩
theorem yW (t:Nat) (z:Int) (hz:z=t):z / 9223372036854775808=((t / 9223372036854775808:Nat):Int):=by omega
section
def sH (x y la:Nat) (w:World) (e:Ending) (w':World):Prop:=∃v l,e=.returned v∧WV w' v l∧wv l=x-y∧l.length≤la∧Below w.heap.size w w'
theorem pE (ao:Option Addr) (g off cap:Nat) (a:List Nat) (bo:Option Addr) (g' off' cap':Nat) (b:List Nat) (w:World) (ha:WS w ao g off cap a) (hb:WS w bo g' off' cap' b) (hla:a.length≤1000000) (hab:b.length≤a.length) (hle:wv b≤wv a):
    Calls Tryz.prog 245 #[.slice ao a.length cap,.slice bo b.length cap'] w (sH (wv a) (wv b) a.length w):=by
 have hal:=ha.le;have ham:=ha.most;have hbl:=hb.le;have hbm:=hb.most;have HA:=hid ha;have HB:=hid hb;have HLE:=hid hle;clear ha hb hle;have hmk:=eS a.length (by omega) (a.length:Int) rfl;have hst:=WB.new w (List.replicate a.length 0);have hbel:Below w.heap.size w (w.alloc (.cells (bZ (List.replicate a.length 0)).toArray 235)):=(ah _ _).alloc (ag _) _;have HST:=hid hst;have HBE:=hid hbel;clear hst hbel
 go_enter Tryz.func245,Tryz.ntmps245
 go_wp2
 go_loopw [6,14] (fun c i wr=>∃(k cc:Nat) (l:List Nat),k≤a.length∧i=.int .i64 k∧c=.int .u64 cc∧SubR a b l k cc∧WB wr w.heap.size l∧Below w.heap.size w wr) (fun _ i _=>a.length-(intOf i).toNat)
 case atStart=>exact ⟨0,0,_,aE _,rfl,rfl,SubR.start a b,HST.out,HBE.out⟩
 case round=>
  obtain ⟨k,cc,l,hk,rfl,rfl,hsub,hwb,hbel⟩:=hrel;have HR:=hid hsub;have HW:=hid hwb;have HBl:=hid hbel;have hc1:=hsub.c1;have hc0:(0:Int)≤cc:=by omega
  have hll:=hsub.len;clear hsub hwb hbel HST HBE
  by_cases hlt:k<a.length
  · have hcw:=HW.out.cell k (by omega);have hfw:=HW.out.fz k;have hsize:=HBl.out.size;have had:=HA.out.ad (by omega);subst had;have hca:=HA.out.keep HBl.out hlt;have hx:=cN (i:=k) HA.out.ws;have hy:=cN (i:=k) HB.out.ws;have hx0:(0:Int)≤((a.getD k 0:Nat):Int):=by omega
    have HS:=hid (fun r c' hr hc he=>HR.out.step hlt r c' hr hc he);obtain ⟨T1,T2,w1,w2,t1,t2,t3,t4⟩:=vy (a.getD k 0) (b.getD k 0) cc (by omega) (by omega) hc1;have HT:=hid t4;have HT3:=hid t3;clear t3 t4
    by_cases hlb:k<b.length
    · have hbd:=HB.out.ad (by omega);subst hbd;have hcb:=HB.out.keep HBl.out hlb;have hy0:(0:Int)≤((b.getD k 0:Nat):Int):=by omega
      have hllb:(k:Int)<(b.length:Int):=by omega
      generalize a.getD k 0=x at *;generalize b.getD k 0=y at *;generalize l.getD k 0=z at *
      go_wp2
      rw[yW T2 _ rfl,gH T2 _ rfl];refine ⟨⟨k+1,T2 / 9223372036854775808,l.set k (T2 % BB),by omega,by go_num,rfl,HS.out _ _ (Nat.mod_lt _ bw) HT3.out (by have:=HT.out;rw[aW];exact this),HW.out.set k _,HBl.out.setCell (ag _) _⟩,?_⟩
      simp[intOf];omega
    · have hllb:¬(k:Int)<(b.length:Int):=by omega
      rw[iy hlb] at HS HT w2
      have e:T1=T2:=by
       rw[IntKind.wrap_u64] at w2
       omega
      subst e;clear w2 hy;generalize a.getD k 0=x at *;generalize l.getD k 0=z at *
      go_wp2
      rw[yW T1 _ rfl,gH T1 _ rfl];refine ⟨⟨k+1,T1 / 9223372036854775808,l.set k (T1 % BB),by omega,by go_num,rfl,HS.out _ _ (Nat.mod_lt _ bw) HT3.out (by have:=HT.out;rw[aW];exact this),HW.out.set k _,HBl.out.setCell (ag _) _⟩,?_⟩
      simp[intOf];omega
  · obtain rfl:k=a.length:=by omega
    have D1:=hid (HR.out.done hab HLE.out)
    go_wp2
    go_ret
    exact ⟨_,_,rfl,HW.out.ws HR.out.ws _ (by omega) (by omega),D1.out.1,by omega,HBl.out⟩
theorem jm (x y:Value) (a b:List Nat) (w:World) (ha:WV w x a) (hb:WV w y b) (hla:a.length≤1000000) (hab:b.length≤a.length) (hle:wv b≤wv a):Calls Tryz.prog 245 #[x,y] w (sH (wv a) (wv b) a.length w):=by
 obtain ⟨ao,g,off,cap,rfl,h1⟩:=ha;obtain ⟨bo,g',off',cap',rfl,h2⟩:=hb;exact pE ao g off cap a bo g' off' cap' b w h1 h2 hla hab hle
end
end Go.Proofs.YtapdbeaoakcjeaaGreatDoor
namespace Go.Proofs.YtapdbeaoakcjeaaGreatDoor
open Go.RowKit Nmx
end Go.Proofs.YtapdbeaoakcjeaaGreatDoor
/- Int.Add of package exact. -/
namespace Go.Proofs.YtapdbeaoakcjeaaGreatDoor
open Go.RowKit Nmx
def Fit (z:Int):Prop:=z.natAbs<BB ^ 1000
theorem ow {l:List Nat} {z:Int} (hn:dS l) (hv:wv l=z.natAbs) (hz:Fit z):l.length≤1000:=by
 by_cases h0:l=[]
 · subst h0;simp
 · have h1:=ja l hn h0;unfold Fit at hz;have h2:BB ^ (l.length-1)<BB ^ 1000:=by omega
   have:=(Nat.pow_lt_pow_iff_right (by rw[aW];omega:1<BB)).1 h2
   omega
theorem iz (w:World) (o o' o2:Obj):(((w.alloc o).alloc o').alloc o2).heap[w.heap.size+2]? =some o2:=by
 have:=heap_alloc_new ((w.alloc o).alloc o') o2
 simpa using this
theorem iY (w:World) (o o' o2:Obj):Below w.heap.size w (((w.alloc o).alloc o').alloc o2):=(((ah w.heap.size w).alloc (ag _) _).alloc (by simp) _).alloc (by simp;omega) _
theorem rj (x y:Value) (a b:List Nat) (w:World) (ha:WV w x a) (hb:WV w y b) (na:dS a) (nb:dS b):Calls Tryz.prog 242 #[x,y] w fun e w'=>e=.returned (.int .i64 (iH (wv a) (wv b)))∧Below w.heap.size w w':=by
 obtain ⟨ao,g,off,cap,rfl,h1⟩:=ha;obtain ⟨bo,g',off',cap',rfl,h2⟩:=hb;exact (eD ao g off cap a bo g' off' cap' b w h1 h2 na nb).mono fun _ _ ⟨he,n,hw⟩=>⟨he,by rw[hw];exact aO (ah _ _) n⟩
theorem sI {a b:List Nat} (na:dS a) (nb:dS b) (h:wv b≤wv a):b.length≤a.length:=by
 apply Decidable.byContradiction;intro hl;have:=eo a b na nb (by omega)
 omega
section
theorem iA:
    (∀{za zb:Int} {b1 b2:Bool} {ad1 ad2:Addr} {n1 c1 n2 c2:Nat} (w:World) (_:IV w (.agg #[.int .i64 0,.bool b1,.slice (some ad1) n1 c1]) za) (_:IV w (.agg #[.int .i64 0,.bool b2,.slice (some ad2) n2 c2]) zb) (_:Fit za) (_:Fit zb),Calls Tryz.prog 218 #[.agg #[.int .i64 0,.bool b1,.slice (some ad1) n1 c1],.agg #[.int .i64 0,.bool b2,.slice (some ad2) n2 c2]] w (dT (za+zb) w))∧
    (∀{za zb:Int} {b1:Bool} {ad1:Addr} {n1 c1:Nat} (w:World) (_:IV w (.agg #[.int .i64 0,.bool b1,.slice (some ad1) n1 c1]) za) (_:IV w (.agg #[.int .i64 zb,.bool false,.slice none 0 0]) zb) (_:Fit za) (_:Fit zb),Calls Tryz.prog 218 #[.agg #[.int .i64 0,.bool b1,.slice (some ad1) n1 c1],.agg #[.int .i64 zb,.bool false,.slice none 0 0]] w (dT (za+zb) w))∧
    (∀{za zb:Int} {b2:Bool} {ad2:Addr} {n2 c2:Nat} (w:World) (_:IV w (.agg #[.int .i64 za,.bool false,.slice none 0 0]) za) (_:IV w (.agg #[.int .i64 0,.bool b2,.slice (some ad2) n2 c2]) zb) (_:Fit za) (_:Fit zb),Calls Tryz.prog 218 #[.agg #[.int .i64 za,.bool false,.slice none 0 0],.agg #[.int .i64 0,.bool b2,.slice (some ad2) n2 c2]] w (dT (za+zb) w))∧
    (∀{za zb:Int} (w:World) (_:Small za) (_:Small zb) (_:za+zb= -9223372036854775808) (_:IV w (.agg #[.int .i64 za,.bool false,.slice none 0 0]) za) (_:IV w (.agg #[.int .i64 zb,.bool false,.slice none 0 0]) zb) (_:Fit za) (_:Fit zb),Calls Tryz.prog 218 #[.agg #[.int .i64 za,.bool false,.slice none 0 0],.agg #[.int .i64 zb,.bool false,.slice none 0 0]] w (dT (za+zb) w))∧
    (∀{za zb:Int} (w:World) (_:Small za) (_:Small zb) (_:9223372036854775807<za+zb) (_:IV w (.agg #[.int .i64 za,.bool false,.slice none 0 0]) za) (_:IV w (.agg #[.int .i64 zb,.bool false,.slice none 0 0]) zb) (_:Fit za) (_:Fit zb),Calls Tryz.prog 218 #[.agg #[.int .i64 za,.bool false,.slice none 0 0],.agg #[.int .i64 zb,.bool false,.slice none 0 0]] w (dT (za+zb) w))∧
    (∀{za zb:Int} (w:World) (_:Small za) (_:Small zb) (_:za+zb < -9223372036854775808) (_:IV w (.agg #[.int .i64 za,.bool false,.slice none 0 0]) za) (_:IV w (.agg #[.int .i64 zb,.bool false,.slice none 0 0]) zb) (_:Fit za) (_:Fit zb),Calls Tryz.prog 218 #[.agg #[.int .i64 za,.bool false,.slice none 0 0],.agg #[.int .i64 zb,.bool false,.slice none 0 0]] w (dT (za+zb) w)):=by
 refine ⟨?g1,?g2,?g3,?g4,?g5,?g6⟩
 focus
  intro za zb b1 b2 ad1 ad2 n1 c1 n2 c2 w ha hb fa fb
 rotate_left
 focus
  intro za zb b1 ad1 n1 c1 w ha hb fa fb
 rotate_left
 focus
  intro za zb b2 ad2 n2 c2 w ha hb fa fb
 rotate_left
 focus
  intro za zb w hza hzb hs ha hb fa fb
 rotate_left
 focus
  intro za zb w hza hzb hs ha hb fa fb
 rotate_left
 focus
  intro za zb w hza hzb hs ha hb fa fb
 rotate_left
 all_goals
  have kq:=iw;have kq0:=dO;have hpa:=fun (W':World) (hB:Below w.heap.size w W')=>ix _ _ W' (ha.far hB)
  have hpb:=fun (W':World) (hB:Below w.heap.size w W')=>ix _ _ W' (hb.far hB)
  clear ha hb
 rotate_left
 rotate_left
 rotate_left
 focus
  obtain ⟨q1,q2⟩:=hza;obtain ⟨q3,q4⟩:=hzb;have hpos:¬0<zb:=by omega
  obtain ⟨S,hS⟩:∃S,IntKind.i64.wrap (za+zb)=S:=⟨_,rfl⟩
  have hge:¬za<S:=by rw[←hS,IntKind.wrap_i64];omega
  have hbq:(S != -9223372036854775808)=false:=by rw[←hS,IntKind.wrap_i64];simp;omega
  have HS:=hid hs;clear hs
 rotate_left
 focus
  obtain ⟨q1,q2⟩:=hza;obtain ⟨q3,q4⟩:=hzb;have hpos:0<zb:=by omega
  obtain ⟨S,hS⟩:∃S,IntKind.i64.wrap (za+zb)=S:=⟨_,rfl⟩
  have hge:¬za<S:=by rw[←hS,IntKind.wrap_i64];omega
 rotate_left
 focus
  obtain ⟨q1,q2⟩:=hza;obtain ⟨q3,q4⟩:=hzb;have hpos:¬0<zb:=by omega
  obtain ⟨S,hS⟩:∃S,IntKind.i64.wrap (za+zb)=S:=⟨_,rfl⟩
  have hge:za<S:=by rw[←hS,IntKind.wrap_i64];omega
 rotate_left
 all_goals
  go_enter Tryz.func218,Tryz.ntmps218
  go_wp2_with fail
  refine (hpa _ (iY w _ _ _)).mono ?_;rintro e w1 ⟨va',la,rfl,hva,hna,hla,-,hb1⟩;have hlla:=ow hna hla fa;obtain ⟨hc1,hf1⟩:=fL hb1;have hz1:w.heap.size+2<w1.heap.size:=by have:=hb1.size;simp at this;omega
  have HB1:=hid ((iY w _ _ _).trans (hb1.mono (by simp;omega)));have HR1:=hid ((hb1.block (w.heap.size+2) (by simp)).trans (iz w _ _ _));have HVA:=hid hva;have HNA:=hid hna;have HLA:=hid hla;clear hb1 hva hna hla hpa
  go_wp2_with fail
  refine (hpb _ HB1.out).mono ?_;rintro e w2 ⟨vb',lb,rfl,hvb,hnb,hlb,-,hb2⟩;have hllb:=ow hnb hlb fb;obtain ⟨hc2,hf2⟩:=fL hb2;have hz2:w.heap.size+2<w2.heap.size:=by have:=hb2.size;omega
  have HB2:=hid (HB1.out.trans (hb2.mono HB1.out.size));have HR2:=hid ((hb2.block (w.heap.size+2) hz1).trans HR1.out);have HVA2:=hid (HVA.out.far hb2);have HVB:=hid hvb;have HNB:=hid hnb;have HLB:=hid hlb;clear hb2 hvb hnb hlb hpb HB1 HR1 HVA
  by_cases hsg:decide (za<0)=decide (zb<0)
  · have hsb:(decide (za<0)==decide (zb<0))=true:=by simpa using hsg
    have HSG:=hid hsg;clear hsg;have hadd:=ou va' vb' la lb w2 HVA2.out HVB.out (by omega) (by omega)
    go_wp2_with fail
    refine hadd.mono ?_;rintro e w3 ⟨v3,l3,rfl,hv3,hw3,hl3,hb3⟩;have hfp:=cI (decide (za<0)) v3 l3 w3 hv3 (by omega);have HW3:=hid hw3;obtain ⟨hc3,hf3⟩:=fL hb3;have hz3:w.heap.size+2<w3.heap.size:=by have:=hb3.size;omega
    have HB3:=hid (HB2.out.trans (hb3.mono HB2.out.size));have HR3:=hid ((hb3.block (w.heap.size+2) hz2).trans HR2.out);clear hb3 hv3 hw3 hadd
    go_wp2_with fail
    refine hfp.mono ?_;rintro e w4 ⟨v4,rfl,hv4,hb4⟩;have HV4:=hid hv4;obtain ⟨s4,b4,a4,n4,c4,rfl⟩:=aT hv4;obtain ⟨hc4,hf4⟩:=fL hb4;have HB4:=hid (HB3.out.trans (hb4.mono HB3.out.size));have HR4:=hid ((hb4.block (w.heap.size+2) hz3).trans HR3.out)
    have HE:Hid (sgn (decide (za<0)) (wv l3)=za+zb):=hid (by
     have h1:=HSG.out;have h2:=HLA.out;have h3:=HLB.out;rw[HW3.out,h2,h3]
     by_cases hz:za<0
     · rw[decide_eq_true hz] at h1 ⊢;have:zb<0:=by simpa using h1.symm
       unfold sgn;simp;omega
     · rw[decide_eq_false hz] at h1 ⊢;have:¬zb<0:=by simpa using h1.symm
       unfold sgn;simp;omega)
    clear hb4 hv4 hfp
    go_wp2
    rw[←HE.out];exact dP Tryz.results218 rfl rfl HR4.out HV4.out HB4.out (by omega)
  · have hsb:(decide (za<0)==decide (zb<0))=false:=by simpa using hsg
    have HSG:=hid hsg;clear hsg;have hcmp:=rj _ _ la lb w2 HVA2.out HVB.out HNA.out HNB.out
    go_wp2_with fail
    refine hcmp.mono ?_;rintro e w3 ⟨he,hb3⟩;obtain ⟨hc3,hf3⟩:=fL hb3;have hz3:w.heap.size+2<w3.heap.size:=by have:=hb3.size;omega
    have HB3:=hid (HB2.out.trans (hb3.mono HB2.out.size));have HR3:=hid ((hb3.block (w.heap.size+2) hz2).trans HR2.out);have HVA3:=hid (HVA2.out.far hb3);have HVB3:=hid (HVB.out.far hb3);clear hb3 hcmp HVA2 HVB;rcases Nat.lt_trichotomy (wv la) (wv lb) with hlt | hlt | hlt
    · rw[iq hlt] at he;subst he;have hsub:=jm vb' va' lb la w3 HVB3.out HVA3.out (by omega) (sI HNB.out HNA.out (by omega)) (by omega);have hne:True:=trivial
      go_wp2_with fail
      refine hsub.mono ?_;rintro e w4 ⟨v4,l4,rfl,hv4,hw4,hl4,hb4⟩;have hfp:=cI (decide (zb<0)) v4 l4 w4 hv4 (by omega);have HW4:=hid hw4;obtain ⟨hc4,hf4⟩:=fL hb4;have hz4:w.heap.size+2<w4.heap.size:=by have:=hb4.size;omega
      have HB4:=hid (HB3.out.trans (hb4.mono HB3.out.size));have HR4:=hid ((hb4.block (w.heap.size+2) hz3).trans HR3.out)
      have HE:Hid (sgn (decide (zb<0)) (wv l4)=za+zb):=hid (by
       have h1:=HSG.out;have h2:=HLA.out;have h3:=HLB.out;rw[HW4.out]
       by_cases hz:za<0
       · by_cases hzz:zb<0
         · exact absurd (by rw[decide_eq_true hz,decide_eq_true hzz]) h1
         · simp[hzz,sgn];omega
       · by_cases hzz:zb<0
         · simp[hzz,sgn];omega
         · exact absurd (by rw[decide_eq_false hz,decide_eq_false hzz]) h1)
      clear hb4 hv4 hw4 hsub
      go_wp2_with fail
      refine hfp.mono ?_;rintro e w5 ⟨v5,rfl,hv5,hb5⟩;have HV5:=hid hv5;obtain ⟨s5,b5,a5,n5,c5,rfl⟩:=aT hv5;obtain ⟨hc5,hf5⟩:=fL hb5;have HB5:=hid (HB4.out.trans (hb5.mono HB4.out.size));have HR5:=hid ((hb5.block (w.heap.size+2) hz4).trans HR4.out);clear hb5 hv5 hfp
      go_wp2
      rw[←HE.out];exact dP Tryz.results218 rfl rfl HR5.out HV5.out HB5.out (by omega)
    · rw[ir hlt] at he;subst he
      have HE:Hid (za+zb=0):=hid (by
       have h1:=HSG.out;have h2:=HLA.out;have h3:=HLB.out
       by_cases hz:za<0
       · by_cases hzz:zb<0
         · exact absurd (by rw[decide_eq_true hz,decide_eq_true hzz]) h1
         · omega
       · by_cases hzz:zb<0
         · omega
         · exact absurd (by rw[decide_eq_false hz,decide_eq_false hzz]) h1)
      clear hlt
      go_wp2
      rw[HE.out];exact dP Tryz.results218 rfl rfl HR3.out (bV _ (by unfold Small;omega)) HB3.out (by omega)
    · rw[f7 hlt] at he;subst he;have hsub:=jm va' vb' la lb w3 HVA3.out HVB3.out (by omega) (sI HNA.out HNB.out (by omega)) (by omega);have hne:True:=trivial
      go_wp2_with fail
      refine hsub.mono ?_;rintro e w4 ⟨v4,l4,rfl,hv4,hw4,hl4,hb4⟩;have hfp:=cI (decide (za<0)) v4 l4 w4 hv4 (by omega);have HW4:=hid hw4;obtain ⟨hc4,hf4⟩:=fL hb4;have hz4:w.heap.size+2<w4.heap.size:=by have:=hb4.size;omega
      have HB4:=hid (HB3.out.trans (hb4.mono HB3.out.size));have HR4:=hid ((hb4.block (w.heap.size+2) hz3).trans HR3.out)
      have HE:Hid (sgn (decide (za<0)) (wv l4)=za+zb):=hid (by
       have h1:=HSG.out;have h2:=HLA.out;have h3:=HLB.out;rw[HW4.out]
       by_cases hz:za<0
       · by_cases hzz:zb<0
         · exact absurd (by rw[decide_eq_true hz,decide_eq_true hzz]) h1
         · simp[hz,sgn];omega
       · by_cases hzz:zb<0
         · simp[hz,sgn];omega
         · exact absurd (by rw[decide_eq_false hz,decide_eq_false hzz]) h1)
      clear hb4 hv4 hw4 hsub
      go_wp2_with fail
      refine hfp.mono ?_;rintro e w5 ⟨v5,rfl,hv5,hb5⟩;have HV5:=hid hv5;obtain ⟨s5,b5,a5,n5,c5,rfl⟩:=aT hv5;obtain ⟨hc5,hf5⟩:=fL hb5;have HB5:=hid (HB4.out.trans (hb5.mono HB4.out.size));have HR5:=hid ((hb5.block (w.heap.size+2) hz4).trans HR4.out);clear hb5 hv5 hfp
      go_wp2
      rw[←HE.out];exact dP Tryz.results218 rfl rfl HR5.out HV5.out HB5.out (by omega)
theorem xx {za zb:Int} (w:World) (hza:Small za) (hzb:Small zb) (hs:Small (za+zb)):
    Calls Tryz.prog 218 #[.agg #[.int .i64 za,.bool false,.slice none 0 0],.agg #[.int .i64 zb,.bool false,.slice none 0 0]] w (dT (za+zb) w):=by
 have kq0:=dO;have HS:=hid hs;obtain ⟨q1,q2⟩:=hza;obtain ⟨q3,q4⟩:=hzb;obtain ⟨q5,q6⟩:=hs
 have hd:(decide (za<za+zb)==decide (0<zb))=true:=by
  by_cases h:0<zb
  · rw[decide_eq_true h,decide_eq_true (by omega)];rfl
  · rw[decide_eq_false h,decide_eq_false (by omega)];rfl
 have hne:(za+zb != -9223372036854775808)=true:=by simp;omega
 go_enter Tryz.func218,Tryz.ntmps218
 go_wp2
 exact bodyPost_ret (v:=cq (za+zb)) (by simp[results,Tryz.results218,go_sem,cq]) rfl ⟨_,rfl,bV _ HS.out,iY w _ _ _⟩
theorem sJ (x y:Value) (za zb:Int) (w:World) (ha:IV w x za) (hb:IV w y zb) (fa:Fit za) (fb:Fit zb):Calls Tryz.prog 218 #[x,y] w (dT (za+zb) w):=by
 rcases ha with ⟨rfl,h1⟩ | ⟨b1,g1,o1,c1,l1,rfl,h2,h3,h4⟩
 · rcases hb with ⟨rfl,k1⟩ | ⟨b2,g2,o2,c2,l2,rfl,k2,k3,k4⟩
   · by_cases hs:Small (za+zb)
     · exact xx w h1 k1 hs
     · rcases Int.lt_trichotomy (za+zb) (-9223372036854775808) with h | h | h
       · exact iA.2.2.2.2.2 w h1 k1 h (.inl ⟨rfl,h1⟩) (.inl ⟨rfl,k1⟩) fa fb
       · exact iA.2.2.2.1 w h1 k1 h (.inl ⟨rfl,h1⟩) (.inl ⟨rfl,k1⟩) fa fb
       · exact iA.2.2.2.2.1 w h1 k1 (by unfold Small at hs;omega) (.inl ⟨rfl,h1⟩) (.inl ⟨rfl,k1⟩) fa fb
   · exact iA.2.2.1 w (.inl ⟨rfl,h1⟩) (.inr ⟨b2,g2,o2,c2,l2,rfl,k2,k3,k4⟩) fa fb
 · rcases hb with ⟨rfl,k1⟩ | ⟨b2,g2,o2,c2,l2,rfl,k2,k3,k4⟩
   · exact iA.2.1 w (.inr ⟨b1,g1,o1,c1,l1,rfl,h2,h3,h4⟩) (.inl ⟨rfl,k1⟩) fa fb
   · exact iA.1 w (.inr ⟨b1,g1,o1,c1,l1,rfl,h2,h3,h4⟩) (.inr ⟨b2,g2,o2,c2,l2,rfl,k2,k3,k4⟩) fa fb
end
end Go.Proofs.YtapdbeaoakcjeaaGreatDoor

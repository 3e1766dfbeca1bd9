import Derived.Test.YtpkfnnkbfphfbaaGreatDoorHAA
import Derived.Test.YtpkfnnkbfphfbaaGreatDoorRows
import Derived.WalkSpells
import Derived.WalkLawsBesides
import Derived.BigQuiet
import Derived.Lib.Hide
set_option maxRecDepth 100000
set_option maxHeartbeats 40000000
open Go.Lib (hid)
namespace Nmx
noncomputable def BB:Nat:=(Classical.choice ⟨(⟨4294967296,rfl⟩:{ n:Nat // n=4294967296 })⟩).1
theorem bj:BB=4294967296:=(Classical.choice ⟨(⟨4294967296,rfl⟩:{ n:Nat // n=4294967296 })⟩).2
noncomputable def wv:List Nat→Nat
 | []=>0
 | x::l=>x+BB*wv l
def Ws (l:List Nat):Prop:=∀x∈l,x<BB
theorem dh:wv []=0:=rfl
theorem ee (x:Nat) (l:List Nat):wv (x::l)=x+BB*wv l:=rfl
theorem kF (a b:List Nat):wv (a++b)=wv a+BB ^ a.length*wv b:=by
 induction a with
 | nil=>simp[dh]
 | cons x r ih=>
   rw[List.cons_append,ee,ee,ih,aw,Nat.pow_succ,Nat.mul_add,Nat.add_assoc]
   congr 2
   rw[←Nat.mul_assoc,Nat.mul_comm BB]
theorem oU (x:Nat):wv [x]=x:=by simp[ee,dh]
theorem lM (l:List Nat) (x:Nat):wv (l++[x])=wv l+BB ^ l.length*x:=by rw[kF,oU]
theorem im (n:Nat):wv (List.replicate n 0)=0:=by
 induction n with
 | zero=>rfl
 | succ n ih=>rw[List.replicate_succ,ee,ih];simp
theorem bF:0<BB:=by rw[bj];omega
theorem yZ (n:Nat):0<BB ^ n:=Nat.pow_pos bF
theorem Ws.cons {x:Nat} {l:List Nat} (hx:x<BB) (h:Ws l):Ws (x::l):=fun y hy=>by
 rw[List.mem_cons] at hy;rcases hy with rfl | hy
 · exact hx
 · exact h y hy
theorem Ws.nil:Ws []:=fun _ h=>by cases h
theorem Ws.append {a b:List Nat} (ha:Ws a) (hb:Ws b):Ws (a++b):=fun y hy=>by
 rw[List.mem_append] at hy;rcases hy with h | h
 · exact ha y h
 · exact hb y h
theorem Ws.left {a b:List Nat} (h:Ws (a++b)):Ws a:=fun y hy=>h y (List.mem_append_left _ hy)
theorem Ws.take {l:List Nat} (h:Ws l) (n:Nat):Ws (l.take n):=fun y hy=>h y (List.mem_of_mem_take hy)
theorem Ws.drop {l:List Nat} (h:Ws l) (n:Nat):Ws (l.drop n):=fun y hy=>h y (List.mem_of_mem_drop hy)
theorem Ws.set {l:List Nat} (h:Ws l) (i:Nat) {x:Nat} (hx:x<BB):Ws (l.set i x):=fun y hy=>by
 rcases List.mem_or_eq_of_mem_set hy with h1 | h1
 · exact h y h1
 · rw[h1];exact hx
theorem Ws.zeros (n:Nat):Ws (List.replicate n 0):=fun y hy=>by rw[(List.mem_replicate.1 hy).2];exact bF
theorem Ws.get {l:List Nat} (h:Ws l) (i:Nat) (hi:i<l.length):l[i]<BB:=h _ (List.getElem_mem hi)
theorem eW (l:List Nat) (h:Ws l):wv l<BB ^ l.length:=by
 induction l with
 | nil=>simp[dh]
 | cons x r ih=>
   have h1:=h x (by simp);have h2:=ih (fun y hy=>h y (by simp[hy]));rw[ee,aw,Nat.pow_succ];have:BB*(wv r+1)≤BB*BB ^ r.length:=Nat.mul_le_mul_left _ h2;rw[Nat.mul_add,Nat.mul_one,Nat.mul_comm BB (BB ^ r.length)] at this
   omega
theorem xh (l:List Nat) (i x:Nat) (hi:i<l.length):wv (l.set i x)+BB ^ i*l[i]=wv l+BB ^ i*x:=by
 induction l generalizing i with
 | nil=>simp at hi
 | cons y r ih=>
   cases i with
   | zero=>simp only[ag,ee,List.getElem_cons_zero,Nat.pow_zero,Nat.one_mul];omega
   | succ i=>
     simp only[ah,ee,List.getElem_cons_succ];have:=ih i (by simpa using hi);rw[Nat.pow_succ,Nat.mul_right_comm,Nat.mul_right_comm (BB ^ i) BB x,Nat.mul_comm _ BB,Nat.mul_comm _ BB];have h2:BB*(wv (r.set i x)+BB ^ i*r[i]'(by simpa using hi))=BB*(wv r+BB ^ i*x):=by rw[this]
     rw[Nat.mul_add,Nat.mul_add] at h2
     omega
theorem gK (l:List Nat) (i:Nat) (hi:i<l.length):wv (l.take (i+1))=wv (l.take i)+BB ^ i*l[i]:=by
 rw[List.take_succ_eq_append_getElem hi,lM,List.length_take,Nat.min_eq_left (by omega)]
theorem bQ (l:List Nat) (i:Nat) (hi:l.length≤i):wv (l.take i)=wv l:=by rw[aT hi]
theorem io (l:List Nat) (i:Nat):wv l=wv (l.take i)+BB ^ (min i l.length)*wv (l.drop i):=by
 rw[←List.length_take,←kF,List.take_append_drop]
theorem oV (l:List Nat) (i:Nat) (hi:i<l.length):wv (l.drop i)=l[i]+BB*wv (l.drop (i+1)):=by
 rw[List.drop_eq_getElem_cons hi,ee]
def de (l:List Nat):List Nat:=(l.reverse.dropWhile (·==0)).reverse
theorem vz:de []=[]:=rfl
theorem fx (l:List Nat):de (l++[0])=de l:=by simp[de]
theorem fy (l:List Nat) (x:Nat) (hx:x≠0):de (l++[x])=l++[x]:=by simp[de,hx]
def em (l:List Nat):Prop:=Ws l∧∀x,l.getLast? =some x→x≠0
theorem gm {P:List Nat→Prop} (h0:P []) (hs:∀l a,P l→P (l++[a])) (l:List Nat):P l:=by
 have h:∀l:List Nat,P l.reverse:=by
  intro l
  induction l with
  | nil=>exact h0
  | cons a r ih=>rw[List.reverse_cons];exact hs _ _ ih
 have:=h l.reverse;rwa [List.reverse_reverse] at this
theorem gn (l:List Nat):wv (de l)=wv l:=by
 induction l using gm with
 | h0=>rfl
 | hs l a ih=>
   by_cases h:a=0
   · subst h;rw[fx,ih,lM];simp
   · rw[fy _ _ h]
theorem ml (l:List Nat) (h:Ws l):em (de l):=by
 induction l using gm with
 | h0=>exact ⟨Ws.nil,fun x hx=>by cases hx⟩
 | hs l a ih=>
   by_cases ha:a=0
   · subst ha;rw[fx];exact ih h.left
   · rw[fy _ _ ha];exact ⟨h,fun x hx=>by rw[List.getLast?_append] at hx;simp at hx;omega⟩
theorem e6 (l:List Nat):(de l).length≤l.length:=by
 induction l using gm with
 | h0=>simp[vz]
 | hs l a ih=>
   by_cases ha:a=0
   · subst ha;rw[fx,aE];omega
   · rw[fy _ _ ha];exact aj _
theorem fA (l:List Nat):de l=l.take (de l).length:=by
 induction l using gm with
 | h0=>rfl
 | hs l a ih=>
   by_cases ha:a=0
   · subst ha;rw[fx,List.take_append_of_le_length (e6 l)];exact ih
   · rw[fy _ _ ha,List.take_length]
theorem jS (l:List Nat) (h:em l) (h0:l≠[]):BB ^ (l.length-1)≤wv l:=by
 induction l using gm with
 | h0=>exact absurd rfl h0
 | hs l a _=>
   have ha:=h.2 a (by simp);rw[lM,aE,aS,Nat.add_sub_cancel];have:BB ^ l.length*1≤BB ^ l.length*a:=Nat.mul_le_mul_left _ (by omega)
   omega
theorem eK (a b:List Nat) (ha:em a) (hb:em b) (h:a.length<b.length):wv a<wv b:=by
 have h1:=eW a ha.1;have h2:=jS b hb (fun e=>by subst e;simp at h);have h3:BB ^ a.length≤BB ^ (b.length-1):=Nat.pow_le_pow_right bF (by omega)
 omega
theorem vA (l:List Nat) (h:em l) (h0:wv l=0):l=[]:=by
 apply Decidable.byContradiction;intro hne;have:=jS l h hne;have:=yZ (l.length-1)
 omega
theorem AL (a b:List Nat) (hl:a.length=b.length) (ha:Ws a) (i:Nat) (hi:i<a.length) (he:a.drop (i+1)=b.drop (i+1)) (h:a[i]<b[i]'(by omega)):wv a<wv b:=by
 rw[io a (i+1),io b (i+1),he,hl,gK a i hi,gK b i (by omega)];have h1:=eW (a.take i) (ha.take i);rw[List.length_take,Nat.min_eq_left (by omega)] at h1;have:BB ^ i*(a[i]+1)≤BB ^ i*b[i]'(by omega):=Nat.mul_le_mul_left _ h;rw[Nat.mul_add,Nat.mul_one] at this
 omega
theorem gL (l:List Nat) (i x:Nat) (hi:i<l.length) (h0:l.getD i 0=0):wv (l.set i x)=wv l+BB ^ i*x:=by
 have:=xh l i x hi;have e:l[i]=0:=by rw[aA,ay hi] at h0;simpa using h0
 rw[e,Nat.mul_zero,Nat.add_zero] at this;exact this
theorem bq (l:List Nat) (i:Nat):wv (l.take (i+1))=wv (l.take i)+BB ^ i*l.getD i 0:=by
 by_cases hi:i<l.length
 · rw[gK l i hi,aA,ay hi];rfl
 · rw[aT (by omega),aT (by omega),aA,List.getElem?_eq_none (by omega)];simp
theorem Ws.getD {l:List Nat} (h:Ws l) (i:Nat):l.getD i 0<BB:=by
 by_cases hi:i<l.length
 · rw[aA,ay hi];exact h.get i hi
 · rw[aA,List.getElem?_eq_none (by omega)];exact bF
theorem dr (l:List Nat) (i x:Nat) (hi:i<l.length):(l.set i x).getD i 0=x:=by simp[List.getD_eq_getElem?_getD,hi]
theorem bZ (l:List Nat) (i j x:Nat) (h:i≠j):(l.set i x).getD j 0=l.getD j 0:=by simp[List.getD_eq_getElem?_getD,List.getElem?_set_ne h]
theorem eB (l:List Nat) (i:Nat) (hi:i<l.length):l.getD i 0=l[i]:=by rw[aA,ay hi];rfl
theorem i4 (t:Nat):t % BB+BB*(t / BB)=t:=Nat.mod_add_div t BB
structure AddR (a b w:List Nat) (i c:Nat):Prop where
 len:w.length=a.length+1
 ws:Ws w
 zero:∀k,i≤k→w.getD k 0=0
 c1:c≤1
 val:wv w+BB ^ i*c=wv (a.take i)+wv (b.take i)
theorem AddR.start (a b:List Nat):AddR a b (List.replicate (a.length+1) 0) 0 0:=
 ⟨by simp,Ws.zeros _,fun k _=>by rw[aA,List.getElem?_replicate];split <;> rfl,by omega,by rw[im];simp[dh]⟩
theorem AddR.step {a b w:List Nat} {i c:Nat} (h:AddR a b w i c) (ha:Ws a) (hb:Ws b) (hi:i<a.length) (t:Nat) (ht:t=a.getD i 0+c+b.getD i 0):AddR a b (w.set i (t % BB)) (i+1) (t / BB):=by
 have h1:=ha.getD i;have h2:=hb.getD i;have h3:=h.c1;have h4:=i4 t;have h5:=Nat.mod_lt t bF;refine ⟨by rw[aQ];exact h.len,h.ws.set i h5,fun k hk=>by rw[bZ _ _ _ _ (by omega)];exact h.zero k (by omega),?_,?_⟩
 · have:t / BB<2:=(Nat.div_lt_iff_lt_mul bF).2 (by omega)
   omega
 · rw[gL w i _ (by rw[h.len];omega) (h.zero i (aj _)),bq,bq,Nat.pow_succ,Nat.mul_assoc,Nat.add_assoc,←Nat.mul_add,h4,ht,Nat.mul_add,Nat.mul_add];have:=h.val
   omega
theorem AddR.done {a b w:List Nat} {c:Nat} (h:AddR a b w a.length c) (hl:b.length≤a.length):wv (w.set a.length c)=wv a+wv b∧Ws (w.set a.length c)∧(w.set a.length c).length=a.length+1:=by
 have h1:=h.val;rw[bQ a _ (aj _),bQ b _ hl] at h1;refine ⟨by rw[gL w _ _ (by rw[h.len];omega) (h.zero _ (aj _)),h1],h.ws.set _ ?_,by rw[aQ,h.len]⟩;have:=h.c1;rw[bj];omega
structure SubR (a b w:List Nat) (i c:Nat):Prop where
 len:w.length=a.length
 ws:Ws w
 zero:∀k,i≤k→w.getD k 0=0
 c1:c≤1
 val:wv w+wv (b.take i)=wv (a.take i)+BB ^ i*c
theorem SubR.start (a b:List Nat):SubR a b (List.replicate a.length 0) 0 0:=
 ⟨by simp,Ws.zeros _,fun k _=>by rw[aA,List.getElem?_replicate];split <;> rfl,by omega,by rw[im];simp[dh]⟩
theorem SubR.step {a b w:List Nat} {i c:Nat} (h:SubR a b w i c) (hi:i<a.length) (r c':Nat) (hr:r<BB) (hc:c'≤1) (he:r+b.getD i 0+c=a.getD i 0+BB*c'):SubR a b (w.set i r) (i+1) c':=by
 refine ⟨by rw[aQ];exact h.len,h.ws.set i hr,fun k hk=>by rw[bZ _ _ _ _ (by omega)];exact h.zero k (by omega),hc,?_⟩;rw[gL w i _ (by rw[h.len];omega) (h.zero i (aj _)),bq,bq,Nat.pow_succ,Nat.mul_assoc];have h1:=h.val;have h2:BB ^ i*(r+b.getD i 0+c)=BB ^ i*(a.getD i 0+BB*c'):=by rw[he]
 rw[Nat.mul_add,Nat.mul_add,Nat.mul_add] at h2
 omega
theorem SubR.done {a b w:List Nat} {c:Nat} (h:SubR a b w a.length c) (hl:b.length≤a.length) (hle:wv b≤wv a):wv w=wv a-wv b∧c=0:=by
 have h1:=h.val;rw[bQ a _ (aj _),bQ b _ hl] at h1;have h2:=eW w h.ws;rw[h.len] at h2;have h3:=h.c1
 have h4:c=0:=by
  apply Decidable.byContradiction;intro hc;have:c=1:=by omega
  subst this
  omega
 subst h4;exact ⟨by omega,rfl⟩
structure MulR (a b w:List Nat) (i j c:Nat):Prop where
 len:w.length=a.length+b.length
 ws:Ws w
 zero:∀k,i+b.length≤k→w.getD k 0=0
 c1:c<BB
 val:wv w+BB ^ (i+j)*c=wv (a.take i)*wv b+BB ^ i*a.getD i 0*wv (b.take j)
theorem MulR.start (a b:List Nat):MulR a b (List.replicate (a.length+b.length) 0) 0 0 0:=
 ⟨by simp,Ws.zeros _,fun k _=>by rw[aA,List.getElem?_replicate];split <;> rfl,bF,by rw[im];simp[dh]⟩
theorem ip (x y z c:Nat) (hx:x<BB) (hy:y<BB) (hz:z<BB) (hc:c<BB):x*y+z+c<BB*BB:=by
 have key:∀b:Nat,x<b→y<b→z<b→c<b→x*y+z+c<b*b:=by
  intro b h1 h2 h3 h4;obtain ⟨k,rfl⟩:∃k,b=k+1:=⟨b-1,by omega⟩
  have h5:x*y≤k*k:=Nat.mul_le_mul (by omega) (by omega);have h6:(k+1)*(k+1)=k*k+2*k+1:=by grind
  omega
 exact key BB hx hy hz hc
theorem MulR.step {a b w:List Nat} {i j c:Nat} (h:MulR a b w i j c) (ha:Ws a) (hb:Ws b) (hi:i<a.length) (hj:j<b.length) (t:Nat) (ht:t=a.getD i 0*b.getD j 0+w.getD (i+j) 0+c):
    MulR a b (w.set (i+j) (t % BB)) i (j+1) (t / BB)∧t<BB*BB:=by
 have h1:=ha.getD i;have h2:=hb.getD j;have h3:=h.ws.getD (i+j);have h4:=i4 t;have h5:=ip _ _ _ _ h1 h2 h3 h.c1;rw[←ht] at h5;refine ⟨⟨by rw[aQ];exact h.len,h.ws.set _ (Nat.mod_lt t bF),fun k hk=>by rw[bZ _ _ _ _ (by omega)];exact h.zero k hk,(Nat.div_lt_iff_lt_mul bF).2 h5,?_⟩,h5⟩;have hl:i+j<w.length:=by rw[h.len];omega
 have hs:=xh w (i+j) (t % BB) hl;have hv:=h.val;rw[←eB w _ hl] at hs;rw[bq,Nat.mul_add,←Nat.add_assoc i j 1,Nat.pow_succ,Nat.mul_assoc];have e1:BB ^ i*a.getD i 0*(BB ^ j*b.getD j 0)=BB ^ (i+j)*(a.getD i 0*b.getD j 0):=by rw[Nat.pow_add];grind
 have e2:BB ^ (i+j)*t=BB ^ (i+j)*(a.getD i 0*b.getD j 0)+BB ^ (i+j)*w.getD (i+j) 0+BB ^ (i+j)*c:=by rw[ht,Nat.mul_add,Nat.mul_add]
 have e3:BB ^ (i+j)*(t % BB)+BB ^ (i+j)*(BB*(t / BB))=BB ^ (i+j)*t:=by rw[←Nat.mul_add,h4]
 rw[e1]
 omega
theorem MulR.next {a b w:List Nat} {i c:Nat} (h:MulR a b w i b.length c) (hi:i<a.length):MulR a b (w.set (i+b.length) c) (i+1) 0 0:=by
 have hl:i+b.length<w.length:=by rw[h.len];omega
 refine ⟨by rw[aQ];exact h.len,h.ws.set _ h.c1,fun k hk=>by rw[bZ _ _ _ _ (by omega)];exact h.zero k (by omega),bF,?_⟩;rw[gL w _ _ hl (h.zero _ (aj _)),bq];have:=h.val;rw[bQ b _ (aj _)] at this;simp only[List.take_zero,dh,Nat.mul_zero,Nat.add_zero];rw[this,Nat.add_mul]
theorem MulR.done {a b w:List Nat} (h:MulR a b w a.length 0 0):wv w=wv a*wv b:=by
 have:=h.val;rw[bQ a _ (aj _)] at this
 simpa [dh] using this
structure DivR (a q:List Nat) (b i r:Nat):Prop where
 len:q.length=a.length
 ws:Ws q
 zero:∀k,k<i→q.getD k 0=0
 r1:r<b
 val:wv (q.drop i)*b+r=wv (a.drop i)
theorem DivR.start (a:List Nat) (b:Nat) (hb:0<b):DivR a (List.replicate a.length 0) b a.length 0:=
 ⟨by simp,Ws.zeros _,fun k _=>by rw[aA,List.getElem?_replicate];split <;> rfl,hb,by simp[dh]⟩
theorem cN (l:List Nat) (i:Nat) (hi:i<l.length):wv (l.drop i)=l.getD i 0+BB*wv (l.drop (i+1)):=by rw[oV l i hi,eB l i hi]
theorem DivR.step {a q:List Nat} {b i r:Nat} (h:DivR a q b (i+1) r) (ha:Ws a) (hi:i<a.length) (t:Nat) (ht:t=r*BB+a.getD i 0):DivR a (q.set i (t / b)) b i (t % b)∧t / b<BB:=by
 have h1:=ha.getD i;have h2:=h.r1;have hb0:0<b:=by omega
 have h3:t<b*BB:=by
  have:(r+1)*BB≤b*BB:=Nat.mul_le_mul_right _ h2;rw[Nat.add_mul,Nat.one_mul] at this
  omega
 have h4:t / b<BB:=(Nat.div_lt_iff_lt_mul hb0).2 (by rw[Nat.mul_comm];exact h3);refine ⟨⟨by rw[aQ];exact h.len,h.ws.set _ h4,fun k hk=>by rw[bZ _ _ _ _ (by omega)];exact h.zero k (by omega),Nat.mod_lt _ hb0,?_⟩,h4⟩;have hq:i<q.length:=by rw[h.len];exact hi
 rw[cN _ i (by rw[aQ];exact hq),dr q i _ hq,List.drop_set_of_lt (by omega),cN a i hi];have h5:=Nat.mod_add_div t b;have h6:=h.val;have h7:BB*(wv (q.drop (i+1))*b+r)=BB*wv (a.drop (i+1)):=by rw[h6]
 rw[Nat.mul_add] at h7;rw[Nat.add_mul,Nat.mul_assoc,Nat.mul_comm (t / b) b,←h7];have:r*BB=BB*r:=Nat.mul_comm _ _
 omega
theorem DivR.done {a q:List Nat} {b r:Nat} (h:DivR a q b 0 r):wv q=wv a / b∧r=wv a % b:=by
 have h1:=h.val;rw[List.drop_zero,List.drop_zero] at h1;have h2:=h.r1;rw[←h1];have h0:0<b:=by omega
 refine ⟨?_,?_⟩
 · rw[Nat.mul_comm,Nat.mul_add_div h0,Nat.div_eq_of_lt h2,Nat.add_zero]
 · rw[Nat.mul_comm,Nat.mul_add_mod,Nat.mod_eq_of_lt h2]
structure Lead (b d1 d2 P D0 D top u2 U0 U:Nat):Prop where
 D_eq:D=(d1*b+d2)*P+D0
 D0_lt:D0<P
 U_eq:U=(top*b+u2)*P+U0
 U0_lt:U0<P
 d2_lt:d2<b
 u2_lt:u2<b
 d1_lt:d1<b
 half:b≤2*d1
 big:2≤b
 less:U<b*D
theorem Lead.low {b d1 d2 P D0 D top u2 U0 U:Nat} (h:Lead b d1 d2 P D0 D top u2 U0 U):d1*b*P≤D∧D<(d1*b+b)*P∧top*b*P≤U∧U<(top*b+b)*P:=by
 have h1:=h.D_eq;have h2:=h.U_eq;have h3:=h.D0_lt;have h4:=h.U0_lt;have e1:(d2+1)*P≤b*P:=Nat.mul_le_mul_right _ h.d2_lt;have e2:(u2+1)*P≤b*P:=Nat.mul_le_mul_right _ h.u2_lt;rw[Nat.add_mul,Nat.one_mul] at e1 e2;rw[Nat.add_mul] at h1 h2;rw[Nat.add_mul,Nat.add_mul];exact ⟨by omega,by omega,by omega,by omega⟩
theorem Lead.top_lt {b d1 d2 P D0 D top u2 U0 U:Nat} (h:Lead b d1 d2 P D0 D top u2 U0 U):top<b*d1+b:=by
 obtain ⟨_,h2,h3,_⟩:=h.low;have h5:=h.less;have h6:b*D≤b*((d1*b+b)*P):=Nat.mul_le_mul_left _ (aL h2);have h7:top*b*P<b*((d1*b+b)*P):=by omega
 have e:b*((d1*b+b)*P)=(b*d1+b)*(b*P):=by grind
 rw[e,Nat.mul_assoc] at h7;exact Nat.lt_of_mul_lt_mul_right h7
theorem Lead.start {b d1 d2 P D0 D top u2 U0 U:Nat} (h:Lead b d1 d2 P D0 D top u2 U0 U):U<(top / d1+1)*D∧top / d1≤b+1∧top / d1*d1+top % d1=top∧top % d1<d1:=by
 obtain ⟨h1,h2,h3,h4⟩:=h.low;have hd:0<d1:=by have:=h.half;have:=h.big;omega
 have h5:=Nat.div_add_mod top d1;have h6:=Nat.mod_lt top hd;have h7:=h.top_lt;refine ⟨?_,?_,by rw[Nat.mul_comm];exact h5,h6⟩
 · have e1:top+1≤(top / d1+1)*d1:=by rw[Nat.add_mul,Nat.mul_comm (top / d1)];omega
   have e2:(top+1)*(b*P)≤(top / d1+1)*d1*(b*P):=Nat.mul_le_mul_right _ e1;have e3:(top / d1+1)*(d1*b*P)≤(top / d1+1)*D:=Nat.mul_le_mul_left _ h1;have e4:(top / d1+1)*d1*(b*P)=(top / d1+1)*(d1*b*P):=by grind
   have e5:(top+1)*(b*P)=(top*b+b)*P:=by grind
   omega
 · have e1:top<(b+2)*d1:=by
     have:=h.half;rw[Nat.add_mul];omega
   have:=(Nat.div_lt_iff_lt_mul hd).2 e1
   omega
theorem Lead.step {b d1 d2 P D0 D top u2 U0 U q r:Nat} (h:Lead b d1 d2 P D0 D top u2 U0 U) (he:q*d1+r=top) (hc:b≤q∨r*b+u2<q*d2):U<q*D∧0<q:=by
 have hb:=h.big;rcases hc with hc | hc
 · refine ⟨aC h.less (Nat.mul_le_mul_right _ hc),by omega⟩
 · refine ⟨?_,?_⟩
   · have h1:q*D=(q*d1*b+q*d2)*P+q*D0:=by rw[h.D_eq];grind
     have h2:(q*d1*b+(r*b+u2+1))*P≤(q*d1*b+q*d2)*P:=Nat.mul_le_mul_right _ (by omega);have h3:(q*d1*b+(r*b+u2+1))*P=(top*b+u2)*P+P:=by rw[←he];grind
     have h4:=h.U_eq;have h5:=h.U0_lt
     omega
   · rcases Nat.eq_zero_or_pos q with h0 | h0
     · subst h0;simp at hc
     · exact h0
theorem Lead.exit1 {b d1 d2 P D0 D top u2 U0 U q r:Nat} (h:Lead b d1 d2 P D0 D top u2 U0 U) (he:q*d1+r=top) (hq:q<b) (hc:q*d2≤r*b+u2):q*D≤U+D:=by
 have h1:q*D=(q*d1*b+q*d2)*P+q*D0:=by rw[h.D_eq];grind
 have h2:(q*d1*b+q*d2)*P≤(q*d1*b+(r*b+u2))*P:=Nat.mul_le_mul_right _ (by omega);have h3:(q*d1*b+(r*b+u2))*P=(top*b+u2)*P:=by rw[←he];grind
 have h4:=h.U_eq;have h5:q*D0≤b*P:=Nat.mul_le_mul (by omega) (aL h.D0_lt);have h6:1*(b*P)≤d1*(b*P):=Nat.mul_le_mul_right _ (by have:=h.half;have:=h.big;omega);rw[←Nat.mul_assoc d1] at h6;have h7:=h.low.1
 omega
theorem Lead.exit2 {b d1 d2 P D0 D top u2 U0 U q r:Nat} (h:Lead b d1 d2 P D0 D top u2 U0 U) (he:q*d1+r=top) (hq:q≤b) (hr:b≤r):q*D≤U:=by
 obtain ⟨h1,h2,h3,h4⟩:=h.low;have e1:q*D≤q*((d1*b+b)*P):=Nat.mul_le_mul_left _ (aL h2);have e2:q*((d1*b+b)*P)=(q*d1+q)*(b*P):=by grind
 have e3:(q*d1+q)*(b*P)≤top*(b*P):=Nat.mul_le_mul_right _ (by omega);rw[←Nat.mul_assoc top] at e3
 omega
theorem nZ {D U q:Nat} (h1:U<(q+1)*D) (h2:q*D≤U+D):(q*D≤U∧U / D=q∧U % D=U-q*D)∨(U<q*D∧0<q∧U / D=q-1∧U % D=U+D-q*D):=by
 have hD:0<D:=by
  rcases Nat.eq_zero_or_pos D with h | h
  · subst h;simp at h1
  · exact h
 by_cases hle:q*D≤U
 · left
   rw[Nat.add_mul,Nat.one_mul] at h1;have e:U / D=q:=Nat.div_eq_of_lt_le hle (by rw[Nat.add_mul,Nat.one_mul];omega);refine ⟨hle,e,?_⟩;have:=Nat.div_add_mod U D;rw[e,Nat.mul_comm] at this
   omega
 · right
   have hq:0<q:=by
    rcases Nat.eq_zero_or_pos q with h | h
    · subst h;simp at hle
    · exact h
   obtain ⟨p,rfl⟩:∃p,q=p+1:=⟨q-1,by omega⟩
   rw[Nat.add_mul,Nat.one_mul] at h2 hle;have e:U / D=p:=Nat.div_eq_of_lt_le (by omega) (by rw[Nat.add_mul,Nat.one_mul];omega);refine ⟨by rw[Nat.add_mul,Nat.one_mul];omega,by omega,by rw[e];rfl,?_⟩;have:=Nat.div_add_mod U D;rw[e,Nat.mul_comm] at this;rw[Nat.add_mul,Nat.one_mul]
   omega
structure SubMulR (u d u':List Nat) (q i c k:Nat):Prop where
 len:u'.length=u.length
 ws:Ws u'
 rest:∀j,i≤j→u'.getD j 0=u.getD j 0
 c1:c<BB
 k1:k≤1
 val:wv (u'.take i)+q*wv (d.take i)=wv (u.take i)+BB ^ i*(c+k)
theorem SubMulR.start (u d:List Nat) (q:Nat) (hu:Ws u):SubMulR u d u q 0 0 0:=⟨rfl,hu,fun _ _=>rfl,bF,by omega,by simp[dh]⟩
theorem iq (l:List Nat) (i x:Nat) (hi:i<l.length):wv ((l.set i x).take (i+1))=wv (l.take i)+BB ^ i*x:=by
 rw[bq,dr l i x hi,List.take_set,List.set_eq_of_length_le (by rw[List.length_take];omega)]
theorem SubMulR.step {u d u':List Nat} {q i c k:Nat} (h:SubMulR u d u' q i c k) (hd:Ws d) (hq:q<BB) (hi:i<d.length) (hl:d.length<u.length) (p:Nat) (hp:p=q*d.getD i 0+c) (r k':Nat) (hr:r<BB) (hk:k'≤1)
    (he:r+p % BB+k=u.getD i 0+BB*k'):SubMulR u d (u'.set i r) q (i+1) (p / BB) k'∧p<BB*BB:=by
 have h1:=hd.getD i;have h2:=ip q (d.getD i 0) 0 c hq h1 bF h.c1;rw[Nat.add_zero,←hp] at h2;refine ⟨⟨by rw[aQ];exact h.len,h.ws.set _ hr,fun j hj=>by rw[bZ _ _ _ _ (by omega)];exact h.rest j (by omega),(Nat.div_lt_iff_lt_mul bF).2 h2,hk,?_⟩,h2⟩;rw[iq _ _ _ (by rw[h.len];omega),bq d,bq u,Nat.pow_succ,Nat.mul_add q,Nat.mul_assoc];have h3:=h.val;have h4:=i4 p;have e1:BB ^ i*(r+p % BB+k)=BB ^ i*(u.getD i 0+BB*k'):=by rw[he]
 have e2:BB ^ i*(p % BB+BB*(p / BB))=BB ^ i*(q*d.getD i 0+c):=by rw[h4,hp]
 have e3:q*(BB ^ i*d.getD i 0)=BB ^ i*(q*d.getD i 0):=by grind
 simp only[Nat.mul_add] at *
 omega
theorem SubMulR.last {u d u':List Nat} {q c k:Nat} (h:SubMulR u d u' q d.length c k) (hl:u.length=d.length+1):
    wv (u'.take d.length)+q*wv d+BB ^ d.length*u.getD d.length 0=wv u+BB ^ d.length*(c+k):=by
 have h1:=h.val;rw[bQ d _ (aj _)] at h1;have h2:=bq u d.length;rw[bQ u _ (by omega)] at h2
 omega
structure BackR (u d u':List Nat) (i c:Nat):Prop where
 len:u'.length=u.length
 ws:Ws u'
 rest:∀j,i≤j→u'.getD j 0=u.getD j 0
 c1:c≤1
 val:wv (u'.take i)+BB ^ i*c=wv (u.take i)+wv (d.take i)
theorem BackR.start (u d:List Nat) (hu:Ws u):BackR u d u 0 0:=⟨rfl,hu,fun _ _=>rfl,by omega,by simp[dh]⟩
theorem BackR.step {u d u':List Nat} {i c:Nat} (h:BackR u d u' i c) (hu:Ws u) (hd:Ws d) (hi:i<d.length) (hl:d.length<u.length) (s:Nat) (hs:s=u.getD i 0+d.getD i 0+c):BackR u d (u'.set i (s % BB)) (i+1) (s / BB):=by
 have h1:=hu.getD i;have h2:=hd.getD i;have h3:=h.c1;have h4:=i4 s;refine ⟨by rw[aQ];exact h.len,h.ws.set _ (Nat.mod_lt _ bF),fun j hj=>by rw[bZ _ _ _ _ (by omega)];exact h.rest j (by omega),?_,?_⟩
 · have:s / BB<2:=(Nat.div_lt_iff_lt_mul bF).2 (by omega)
   omega
 · rw[iq _ _ _ (by rw[h.len];omega),bq d,bq u,Nat.pow_succ,Nat.mul_assoc];have h5:=h.val;have e1:BB ^ i*(s % BB+BB*(s / BB))=BB ^ i*(u.getD i 0+d.getD i 0+c):=by rw[h4,hs]
   simp only[Nat.mul_add] at *
   omega
def dg (d:Nat):UInt8:=UInt8.ofNat (48+d)
def isD (c:UInt8):Bool:=decide (48≤c.toNat) && decide (c.toNat≤57)
def aU (n:Nat):List UInt8:=if _h:n<10 then [dg n] else aU (n / 10)++[dg (n % 10)]
termination_by n
decreasing_by omega
def dv (l:List UInt8):Nat:=l.foldl (fun a c=>10*a+(c.toNat-48)) 0
theorem cA {c:UInt8}:isD c=true ↔ 48≤c.toNat∧c.toNat≤57:=by simp[isD]
theorem cG {n:Nat} (h:n<10):aU n=[dg n]:=by rw[aU,dif_pos h]
theorem fB {n:Nat} (h:¬n<10):aU n=aU (n / 10)++[dg (n % 10)]:=by rw[aU,dif_neg h]
theorem eC (n:Nat):aU n≠[]:=by
 by_cases h:n<10
 · rw[cG h];simp
 · rw[fB h];simp
theorem cj {d:Nat} (h:d<10):(dg d).toNat=48+d:=by
 unfold dg;rw[UInt8.toNat_ofNat'];omega
theorem kG {d:Nat} (h:d<10):isD (dg d)=true:=by rw[cA,cj h];omega
theorem Ae {c:UInt8} (h:isD c=true):dg (c.toNat-48)=c:=by
 rw[cA] at h;apply UInt8.toNat_inj.1;rw[cj (by omega)];omega
theorem bg (n:Nat):(aU n).all isD=true:=by
 induction n using Nat.strongRecOn with
 | _ n ih=>
   by_cases h:n<10
   · rw[cG h];simp only[List.all_cons,List.all_nil,Bool.and_true];exact kG h
   · rw[fB h,List.all_append,ih (n / 10) (by omega)];simp only[List.all_cons,List.all_nil,Bool.and_true,Bool.true_and];exact kG (Nat.mod_lt _ (by omega))
theorem i5 (n:Nat) (h:n≠0):(aU n).headD 0≠48:=by
 induction n using Nat.strongRecOn with
 | _ n ih=>
   by_cases h10:n<10
   · rw[cG h10,List.headD_cons];intro e;have:=congrArg UInt8.toNat e;rw[cj h10] at this;have h48:(48:UInt8).toNat=48:=rfl
     omega
   · have:=ih (n / 10) (by omega) (by omega);rw[fB h10]
     match hd:aU (n / 10),eC (n / 10) with
     | c::r,_=>rw[hd] at this;exact this
theorem uq {α:Type} {P:List α→Prop} (h0:P []) (hs:∀l a,P l→P (l++[a])) (l:List α):P l:=by
 have h:∀l:List α,P l.reverse:=by
  intro l
  induction l with
  | nil=>exact h0
  | cons a r ih=>rw[List.reverse_cons];exact hs _ _ ih
 have:=h l.reverse;rwa [List.reverse_reverse] at this
theorem fT:dv []=0:=rfl
theorem gM (l:List UInt8) (c:UInt8):dv (l++[c])=10*dv l+(c.toNat-48):=by simp[dv,List.foldl_append]
theorem xi (c:UInt8):dv [c]=c.toNat-48:=by simp[dv]
theorem i6 (a b:List UInt8):dv (a++b)=dv a*10 ^ b.length+dv b:=by
 induction b using uq with
 | h0=>simp[fT]
 | hs b c ih=>
   rw[←List.append_assoc,gM,ih,gM,aE,aS,Nat.pow_succ];generalize 10 ^ b.length=p
   grind
theorem fM (c:UInt8) (l:List UInt8):dv (c::l)=(c.toNat-48)*10 ^ l.length+dv l:=by
 have:=i6 [c] l;rw[xi] at this;exact this
theorem ir (l:List UInt8) (h:l.all isD=true):dv l<10 ^ l.length:=by
 induction l with
 | nil=>simp[fT]
 | cons c l ih=>
   rw[List.all_cons,Bool.and_eq_true] at h;have h1:=ih h.2;have h2:=cA.1 h.1;rw[fM,aw,Nat.pow_succ];have:(c.toNat-48)*10 ^ l.length≤9*10 ^ l.length:=Nat.mul_le_mul_right _ (by omega)
   omega
theorem cg (n:Nat):dv (aU n)=n:=by
 induction n using Nat.strongRecOn with
 | _ n ih=>
   by_cases h:n<10
   · rw[cG h,xi,cj h];omega
   · rw[fB h,gM,ih (n / 10) (by omega),cj (Nat.mod_lt _ (by omega))];omega
theorem jT {a b:Nat} (h:aU a=aU b):a=b:=by rw[←cg a,h,cg]
def ut (l:List UInt8):Prop:=l.all isD=true∧l≠[]∧(l=[48]∨l.headD 0≠48)
theorem sO (n:Nat):ut (aU n):=by
 refine ⟨bg n,eC n,?_⟩
 by_cases h:n=0
 · subst h;left;rw[cG (by omega)];rfl
 · exact .inr (i5 n h)
theorem sP {l:List UInt8} (h:l.all isD=true) (h0:l≠[]) (h1:l.headD 0≠48):10 ^ (l.length-1)≤dv l:=by
 match l,h0 with
 | c::r,_=>
   rw[List.all_cons,Bool.and_eq_true] at h;have h2:=cA.1 h.1;have h3:c.toNat≠48:=fun e=>h1 (UInt8.toNat_inj.1 e)
   rw[fM,aw,Nat.add_sub_cancel];have:1*10 ^ r.length≤(c.toNat-48)*10 ^ r.length:=Nat.mul_le_mul_right _ (by omega)
   omega
theorem jU {l:List UInt8} (h:ut l):aU (dv l)=l:=by
 induction l using uq with
 | h0=>exact absurd rfl h.2.1
 | hs i c ih=>
   obtain ⟨h1,_,h3⟩:=h;rw[List.all_append,Bool.and_eq_true] at h1;have hc:isD c=true:=by simpa using h1.2
   have hc':=cA.1 hc;rw[gM]
   by_cases hi:i=[]
   · subst hi;rw[fT,cG (by omega),show 10*0+(c.toNat-48)=c.toNat-48 by omega,Ae hc];rfl
   · have hh:i.headD 0≠48:=by
       rcases h3 with h3 | h3
       · exfalso
         have:=congrArg List.length h3
         simp at this
         exact hi this
       · match i,hi with
         | a::r,_=>exact h3
     have hp:=sP h1.1 hi hh;have hp1:0<10 ^ (i.length-1):=Nat.pow_pos (by omega);rw[fB (by omega),show (10*dv i+(c.toNat-48)) / 10=dv i by omega,ih ⟨h1.1,hi,.inr hh⟩,show (10*dv i+(c.toNat-48)) % 10=c.toNat-48 by omega,Ae hc]
theorem jV (n:Nat) (h:n≠0):10 ^ ((aU n).length-1)≤n∧n<10 ^ (aU n).length:=by
 have h1:=sP (bg n) (eC n) (i5 n h);have h2:=ir _ (bg n);rw[cg] at h1 h2;exact ⟨h1,h2⟩
theorem cQ {n k:Nat} (hk:0<k) (h:n<10 ^ k):(aU n).length≤k:=by
 by_cases h0:n=0
 · subst h0;rw[cG (by omega)];simp;omega
 · have h1:=(jV n h0).1;have h2:10 ^ ((aU n).length-1)<10 ^ k:=by omega
   have:=(Nat.pow_lt_pow_iff_right (by omega:1<10)).1 h2
   omega
theorem dE (n:Nat):0<(aU n).length:=List.length_pos_iff.2 (eC n)
def cn:List UInt8→List UInt8
 | []=>[]
 | [c]=>[c]
 | c::d::r=>if c=48 then cn (d::r) else c::d::r
theorem xj (l:List UInt8):dv (cn l)=dv l:=by
 induction l with
 | nil=>rfl
 | cons c r ih=>
   match r with
   | []=>rfl
   | d::r=>
     unfold cn
     split
     · rename_i h;subst h;rw[ih,fM 48];simp
     · rfl
theorem qI (l:List UInt8) (h:l.all isD=true) (h0:l≠[]):ut (cn l):=by
 induction l with
 | nil=>exact absurd rfl h0
 | cons c r ih=>
   match r with
   | []=>
     unfold cn;refine ⟨h,h0,?_⟩
     by_cases hc:c=48
     · subst hc;exact .inl rfl
     · exact .inr hc
   | d::r=>
     unfold cn
     split
     · rw[List.all_cons,Bool.and_eq_true] at h;exact ih h.2 (by simp)
     · rename_i hc;exact ⟨h,h0,.inr hc⟩
theorem dU (l:List UInt8) (h:l.all isD=true) (h0:l≠[]):cn l=aU (dv l):=by
 rw[←jU (qI l h h0),xj]
theorem mm (l:List UInt8) (h:ut l):cn l=l:=by rw[dU l h.1 h.2.1,jU h]
def lo (l:List UInt8) (i:Nat):Nat:=dv (l.drop (l.length-i))
def di (l:List UInt8) (i:Nat):Nat:=if h:i<l.length then (l[l.length-1-i]'(by omega)).toNat-48 else 0
theorem gN (l:List UInt8):lo l 0=0:=by simp[lo,fT]
theorem jy (l:List UInt8) (i:Nat) (h:l.length≤i):lo l i=dv l:=by
 unfold lo;rw[show l.length-i=0 by omega];rfl
theorem jW (l:List UInt8) (i:Nat):lo l (i+1)=di l i*10 ^ i+lo l i:=by
 unfold lo di
 by_cases h:i<l.length
 · rw[dif_pos h,show l.length-i=l.length-(i+1)+1 by omega,List.drop_eq_getElem_cons (by omega),fM];rw[List.length_drop,show l.length-(l.length-(i+1)+1)=i by omega];have e:l.length-(i+1)=l.length-1-i:=by omega
   simp only[e]
 · rw[dif_neg h,show l.length-(i+1)=0 by omega,show l.length-i=0 by omega];simp
theorem Af (l:List UInt8) (h:l.all isD=true) (i:Nat):di l i<10:=by
 unfold di
 split
 · rename_i hi
   have:=cA.1 (List.all_eq_true.1 h _ (List.getElem_mem (by omega:l.length-1-i<l.length)))
   omega
 · omega
theorem Ag (l:List UInt8) (i:Nat) (hi:i<l.length):di l i=(l[l.length-1-i]'(by omega)).toNat-48:=by unfold di;rw[dif_pos hi]
theorem jz (l:List UInt8) (i:Nat) (hi:¬i<l.length):di l i=0:=by unfold di;rw[dif_neg hi]
theorem xk (a b:List UInt8) (hl:a.length=b.length) (ha:a.all isD=true) (hb:b.all isD=true):a<b ↔ dv a<dv b:=by
 induction a generalizing b with
 | nil=>
   match b,hl with
   | [],_=>simp
 | cons c r ih=>
   match b,hl with
   | d::s,hl=>
     rw[List.all_cons,Bool.and_eq_true] at ha hb;rw[aw,aw] at hl;have h1:=cA.1 ha.1;have h2:=cA.1 hb.1;have h3:=ir r ha.2;have h4:=ir s hb.2;have hl':r.length=s.length:=by omega
     have hih:=ih s hl' ha.2 hb.2;rw[List.cons_lt_cons_iff,fM,fM,hih,hl'];rw[hl'] at h3;generalize 10 ^ s.length=p at *;rw[UInt8.lt_iff_toNat_lt]
     constructor
     · rintro (h | ⟨rfl,h⟩)
       · have:(c.toNat-48+1)*p≤(d.toNat-48)*p:=Nat.mul_le_mul_right _ (by omega);rw[Nat.add_mul] at this
         omega
       · omega
     · intro h
       by_cases e:c.toNat=d.toNat
       · right
         have:c=d:=UInt8.toNat_inj.1 e;subst this;exact ⟨rfl,by omega⟩
       · left
         by_cases g:c.toNat<d.toNat
         · exact g
         · exfalso
           have:(d.toNat-48+1)*p≤(c.toNat-48)*p:=Nat.mul_le_mul_right _ (by omega);rw[Nat.add_mul] at this
           omega
theorem mn {m n:Nat} (h:(aU m).length<(aU n).length):m<n:=by
 have h1:=ir _ (bg m);rw[cg] at h1
 by_cases hn:n=0
 · subst hn;have:=dE m;rw[cG (n:=0) (by omega)] at h;simp only[aS] at h
   omega
 · have h2:=(jV n hn).1;have h3:10 ^ (aU m).length≤10 ^ ((aU n).length-1):=Nat.pow_le_pow_right (by omega) (by omega)
   omega
theorem AM (m n:Nat):(decide ((aU m).length<(aU n).length) || (decide ((aU m).length=(aU n).length) && decide (aU m<aU n)))=decide (m<n):=by
 rw[Bool.eq_iff_iff];simp only[Bool.or_eq_true,Bool.and_eq_true,decide_eq_true_eq]
 have hlex:(aU m).length=(aU n).length→(aU m<aU n ↔ m<n):=fun hl=>by
  have:=xk _ _ hl (bg m) (bg n);rwa [cg,cg] at this
 constructor
 · rintro (h | ⟨h1,h2⟩)
   · exact mn h
   · exact (hlex h1).1 h2
 · intro h
   by_cases h1:(aU m).length<(aU n).length
   · exact .inl h1
   · by_cases h2:(aU m).length=(aU n).length
     · exact .inr ⟨h2,(hlex h2).2 h⟩
     · have:=mn (m:=n) (n:=m) (by omega)
       omega
def bS (z:Int):List UInt8:=if z<0 then 45::aU z.natAbs else aU z.natAbs
def bB (q:Rat):List UInt8:=bS q.num++(if q.den=1 then [] else 47::aU q.den)
def sgB (l:List UInt8):Bool:=l.head? ==some 45
def ci (l:List UInt8):List UInt8:=if sgB l then l.tail else l
def sgn (b:Bool) (n:Nat):Int:=if b then -(n:Int) else n
def gt (l:List UInt8):Option Int:=if ci l=[]∨(ci l).all isD=false then none else some (sgn (sgB l) (dv (ci l)))
def br (l:List UInt8):Option Int:=if ci l=[]∨((ci l).headD 0=48∧l≠[48]) then none else gt l
theorem oc (n:Nat):∃c r,aU n=c::r∧isD c=true:=by
 have h1:=eC n;have h2:=bg n
 match hd:aU n,h1 with
 | c::r,_=>rw[hd,List.all_cons,Bool.and_eq_true] at h2;exact ⟨c,r,rfl,h2.1⟩
theorem xl (n:Nat):sgB (aU n)=false:=by
 obtain ⟨c,r,h1,h2⟩:=oc n;rw[h1];unfold sgB;have h3:=cA.1 h2;simp only[List.head?_cons,beq_eq_false_iff_ne,ne_eq,Option.some.injEq];intro e;subst e;have:(45:UInt8).toNat=45:=rfl
 omega
theorem mo (z:Int):sgB (bS z)=decide (z<0):=by
 unfold bS
 split
 · rename_i h;simp[sgB,h]
 · rename_i h;rw[xl];simp[h]
theorem od (z:Int):ci (bS z)=aU z.natAbs:=by
 unfold ci;rw[mo];unfold bS
 split
 · rename_i h;rw[aF (by simpa using h)];rfl
 · rename_i h;rw[aB (by simpa using h)]
theorem ew:aU 0=[48]:=by rw[cG (by omega)];rfl
theorem vB:bS 0=[48]:=ew
theorem vC (z:Int):gt (bS z)=some z:=by
 unfold gt;rw[od,aB (by rintro (h | h);exact eC _ h;rw[bg] at h;cases h),cg,mo];unfold sgn
 congr 1
 by_cases h:z<0
 · rw[aF (by simpa using h)];omega
 · rw[aB (by simpa using h)];omega
theorem iu (z:Int):br (bS z)=some z:=by
 unfold br;rw[aB,vC];rw[od];rintro (h | ⟨h1,h2⟩)
 · exact eC _ h
 · by_cases h0:z.natAbs=0
   · apply h2;have:z=0:=by omega
     subst this;exact vB
   · exact i5 _ h0 h1
theorem fC (n:Nat):bS (n:Int)=aU n:=by unfold bS;rw[aB (by omega),Int.natAbs_natCast]
theorem mq (n:Nat) (h:0<n):bS (-(n:Int))=45::aU n:=by unfold bS;rw[aF (by omega),Int.natAbs_neg,Int.natAbs_natCast]
theorem eL {l:List UInt8} {z:Int} (h:br l=some z):bS z=l:=by
 unfold br at h
 split at h
 · cases h
 · rename_i hn
   unfold gt at h
   split at h
   · cases h
   · rename_i hi
     cases h
     have hb:ci l≠[]:=fun e=>hi (.inl e)
     have hd:(ci l).all isD=true:=by
      cases e:(ci l).all isD with
      | true=>rfl
      | false=>exact absurd (.inr e) hi
     by_cases h48:(ci l).headD 0=48
     · have hl:l=[48]:=Decidable.byContradiction fun e=>hn (.inr ⟨h48,e⟩)
       subst hl;decide+kernel
     · have hc:=jU ⟨hd,hb,.inr h48⟩;have hp:=sP hd hb h48;have hp1:0<10 ^ ((ci l).length-1):=Nat.pow_pos (by omega);cases hs:sgB l with
       | true=>
         show bS (-(dv (ci l):Int))=l;rw[mq _ (by omega),hc];unfold ci;rw[hs,aF rfl]
         match l,hs with
         | c::r,hs=>simp[sgB] at hs;subst hs;rfl
         | [],hs=>cases hs
       | false=>
         show bS (dv (ci l):Int)=l;rw[fC,hc];unfold ci;rw[hs];rfl
theorem sQ {l:List UInt8} {z:Int}:br l=some z ↔ bS z=l:=⟨eL,fun h=>by rw[←h,iu]⟩
def dB (l:List UInt8):List UInt8:=l.takeWhile (· !=47)
def bC (l:List UInt8):List UInt8:=(l.dropWhile (· !=47)).drop 1
def bp (l:List UInt8):Option Rat:=
 if l.contains 47=false then Option.map (fun z:Int=>(z:Rat)) (br l)
 else match br (dB l),br (bC l) with
  | some n,some d=>if h:1<d∧n≠0∧n.natAbs.gcd d.natAbs=1 then some ⟨n,d.natAbs,by omega,h.2.2⟩ else none
  | _,_=>none
theorem oW (n:Nat) (c:UInt8) (hc:isD c=false):∀x∈aU n,(x !=c)=true:=by
 intro x hx;have:=List.all_eq_true.1 (bg n) x hx;rw[bne_iff_ne];intro e;subst e;rw[hc] at this;cases this
theorem oe (z:Int):∀x∈bS z,(x !=47)=true:=by
 unfold bS;intro x hx
 split at hx
 · rw[List.mem_cons] at hx;rcases hx with rfl | hx
   · rfl
   · exact oW _ 47 (by decide) x hx
 · exact oW _ 47 (by decide) x hx
theorem iw {l:List UInt8} (h:∀x∈l,(x !=47)=true):l.contains 47=false:=by
 rw[Bool.eq_false_iff];intro hc;exact absurd (h 47 (by simpa using hc)) (by decide)
theorem sR {a b:List UInt8} (h:∀x∈a,(x !=47)=true):dB (a++47::b)=a∧bC (a++47::b)=b∧(a++47::b).contains 47=true:=by
 refine ⟨?_,?_,by simp⟩
 · unfold dB;rw[List.takeWhile_append_of_pos h,List.takeWhile_cons];simp
 · unfold bC;rw[List.dropWhile_append_of_pos h,List.dropWhile_cons];simp
theorem qJ {l:List UInt8} (h:l.contains 47=true):l=dB l++47::bC l:=by
 induction l with
 | nil=>simp at h
 | cons c r ih=>
   by_cases hc:c=47
   · subst hc;rfl
   · have hr:r.contains 47=true:=by
       rw[List.contains_cons] at h;rcases (Bool.or_eq_true _ _).mp h with h | h
       · exact absurd (by simpa using h) (fun e:47=c=>hc e.symm)
       · exact h
     have hb:(c !=47)=true:=by simpa using hc
     unfold dB bC;rw[List.takeWhile_cons,aF hb,List.dropWhile_cons,aF hb];exact congrArg (c::·) (ih hr)
theorem dX (q:Rat):bp (bB q)=some q:=by
 unfold bB bp
 by_cases h:q.den=1
 · rw[aF h,List.append_nil,aF (iw (oe _)),iu];simp only[Option.map_some,Option.some.injEq];exact Rat.ext rfl h.symm
 · rw[aB h];obtain ⟨h1,h2,h3⟩:=sR (b:=aU q.den) (oe q.num);rw[aB (by rw[h3];simp),h1,h2,iu]
   have h4:br (aU q.den)=some (q.den:Int):=by
    rw[sQ];unfold bS;rw[aB (by omega),Int.natAbs_natCast]
   rw[h4];have hz:=q.den_nz;have hred:=q.reduced
   have hnum:q.num≠0:=by
    intro e;rw[e] at hred
    simp[Nat.Coprime] at hred
    exact h hred
   simp only;rw[dif_pos ⟨by omega,hnum,by rw[Int.natAbs_natCast];exact hred⟩]
   congr 1
theorem i7 (z:Int):bB (z:Rat)=bS z:=by unfold bB;rw[aF (Rat.den_intCast z),List.append_nil,Rat.num_intCast]
theorem fc {l:List UInt8} {q:Rat} (h:bp l=some q):bB q=l:=by
 unfold bp at h
 split at h
 · rename_i hc
   obtain ⟨z,hz,rfl⟩:=Option.map_eq_some_iff.1 h;rw[i7];exact eL hz
 · rename_i hc
   have hc':l.contains 47=true:=by simpa using hc
   split at h
   · rename_i n d hn hd
     split at h
     · rename_i hh
       cases h
       have h1:=eL hn;have h2:=eL hd;unfold bS at h2;rw[aB (by omega)] at h2;unfold bB;simp only;rw[aB (by omega),h1,h2];exact (qJ hc').symm
     · cases h
   · cases h
theorem vD {p q:Rat} (h:bB p=bB q):p=q:=by
 have:=dX p;rw[h,dX] at this;exact (aI this).symm
def txt:Option Rat→List UInt8
 | some q=>bB q
 | none=>[]
def on1 (f:Rat→Option Rat) (a:List UInt8):List UInt8:=txt ((bp a).bind f)
def on2 (f:Rat→Rat→Option Rat) (a b:List UInt8):List UInt8:=txt ((bp a).bind fun x=>(bp b).bind fun y=>f x y)
theorem qK:bp []=none:=by decide+kernel
structure ShlR (a w:List Nat) (S i c:Nat):Prop where
 len:w.length=a.length+1
 ws:Ws w
 zero:∀k,i≤k→w.getD k 0=0
 c1:c<S
 val:wv w+BB ^ i*c=wv (a.take i)*S
theorem ShlR.start (a:List Nat) (S:Nat) (hS:0<S):ShlR a (List.replicate (a.length+1) 0) S 0 0:=
 ⟨by simp,Ws.zeros _,fun k _=>by rw[aA,List.getElem?_replicate];split <;> rfl,hS,by rw[im];simp[dh]⟩
theorem mr {x S T c:Nat} (hx:x<BB) (hST:S*T=BB) (hc:c<S):x*S % BB+c<BB∧x*S / BB<S∧x*S % BB=x % T*S∧x*S<BB*BB:=by
 have hS:0<S:=by omega
 have hT:0<T:=by
  rcases Nat.eq_zero_or_pos T with h | h
  · subst h;have:=bF;omega
  · exact h
 have e1:x*S % BB=x % T*S:=by rw[←hST,Nat.mul_comm S T,Nat.mul_mod_mul_right]
 have e2:(x % T+1)*S≤T*S:=Nat.mul_le_mul_right _ (Nat.mod_lt _ hT);rw[Nat.add_mul,Nat.one_mul,Nat.mul_comm T S,hST] at e2;have e3:x*S<S*BB:=by rw[Nat.mul_comm];exact Nat.mul_lt_mul_of_pos_left hx hS
 have e4:S*BB≤BB*BB:=Nat.mul_le_mul_right _ (by rw[←hST];exact Nat.le_mul_of_pos_right _ hT);exact ⟨by rw[e1];omega,(Nat.div_lt_iff_lt_mul bF).2 e3,e1,by omega⟩
theorem ShlR.step {a w:List Nat} {S T i c:Nat} (h:ShlR a w S i c) (hST:S*T=BB) (ha:Ws a) (hi:i<a.length):ShlR a (w.set i (a.getD i 0*S % BB+c)) S (i+1) (a.getD i 0*S / BB):=by
 obtain ⟨h1,h2,_,_⟩:=mr (ha.getD i) hST h.c1;refine ⟨by rw[aQ];exact h.len,h.ws.set i h1,fun k hk=>by rw[bZ _ _ _ _ (by omega)];exact h.zero k (by omega),h2,?_⟩;rw[gL w i _ (by rw[h.len];omega) (h.zero i (aj _)),bq,Nat.pow_succ,Nat.mul_assoc];have h3:=h.val;have h4:=i4 (a.getD i 0*S);have e1:BB ^ i*(a.getD i 0*S % BB+BB*(a.getD i 0*S / BB))=BB ^ i*(a.getD i 0*S):=by rw[h4]
 rw[Nat.add_mul,Nat.mul_assoc (BB ^ i) (a.getD i 0)];simp only[Nat.mul_add] at *
 omega
theorem ShlR.done {a w:List Nat} {S T c:Nat} (h:ShlR a w S a.length c) (hST:S*T=BB):wv (w.set a.length c)=wv a*S∧Ws (w.set a.length c)∧(w.set a.length c).length=a.length+1:=by
 have h1:=h.val;rw[bQ a _ (aj _)] at h1;have hc:=h.c1
 have hT:0<T:=by
  rcases Nat.eq_zero_or_pos T with h | h
  · subst h;have:=bF;omega
  · exact h
 have:S≤BB:=by rw[←hST];exact Nat.le_mul_of_pos_right _ hT
 exact ⟨by rw[gL w _ _ (by rw[h.len];omega) (h.zero _ (aj _)),h1],h.ws.set _ (by omega),by rw[aQ,h.len]⟩
structure ShrR (a w:List Nat) (S i:Nat):Prop where
 len:w.length=a.length
 ws:Ws w
 zero:∀k,i≤k→w.getD k 0=0
 val:wv w*S+a.getD 0 0 % S=wv (a.take i)+BB ^ i*(a.getD i 0 % S)
theorem ShrR.start (a:List Nat) (S:Nat):ShrR a (List.replicate a.length 0) S 0:=
 ⟨by simp,Ws.zeros _,fun k _=>by rw[aA,List.getElem?_replicate];split <;> rfl,by rw[im];simp[dh]⟩
theorem xm {x y S T:Nat} (hx:x<BB) (hST:S*T=BB) (hS:0<S):(x+BB*y) / S % BB<BB∧(x+BB*y) / S % BB=x / S+T*(y % S):=by
 refine ⟨Nat.mod_lt _ bF,?_⟩;have e1:(x+BB*y) / S=x / S+T*y:=by rw[←hST,Nat.mul_assoc,Nat.add_mul_div_left _ _ hS]
 have hT:0<T:=by
  rcases Nat.eq_zero_or_pos T with h | h
  · subst h;have:=bF;omega
  · exact h
 have e2:x / S<T:=(Nat.div_lt_iff_lt_mul hS).2 (by rw[Nat.mul_comm,hST];exact hx)
 have e3:T*(y % S)+T≤BB:=by
  rw[←hST,Nat.mul_comm S T,←Nat.mul_succ];exact Nat.mul_le_mul_left _ (Nat.mod_lt _ hS)
 have e4:T*y=T*(y % S)+BB*(y / S):=by
  rw[←hST,Nat.mul_comm S T,Nat.mul_assoc,←Nat.mul_add,Nat.mod_add_div]
 rw[e1,e4,←Nat.add_assoc,Nat.add_mul_mod_self_left,Nat.mod_eq_of_lt (by omega)]
theorem ShrR.step {a w:List Nat} {S T i:Nat} (h:ShrR a w S i) (hST:S*T=BB) (hS:0<S) (ha:Ws a) (hi:i<a.length) (t:Nat) (ht:t=a.getD i 0+BB*a.getD (i+1) 0):ShrR a (w.set i (t / S % BB)) S (i+1):=by
 obtain ⟨h1,h2⟩:=xm (y:=a.getD (i+1) 0) (ha.getD i) hST hS;rw[←ht] at h1 h2;refine ⟨by rw[aQ];exact h.len,h.ws.set i h1,fun k hk=>by rw[bZ _ _ _ _ (by omega)];exact h.zero k (by omega),?_⟩;rw[gL w i _ (by rw[h.len];omega) (h.zero i (aj _)),bq,h2,Nat.pow_succ,Nat.mul_assoc];have h3:=h.val;have h4:=Nat.mod_add_div (a.getD i 0) S;have e1:BB ^ i*(a.getD i 0 % S+S*(a.getD i 0 / S))=BB ^ i*a.getD i 0:=by rw[h4]
 have e2:BB ^ i*(a.getD i 0 / S+T*(a.getD (i+1) 0 % S))*S=BB ^ i*(S*(a.getD i 0 / S))+BB ^ i*(BB*(a.getD (i+1) 0 % S)):=by rw[←hST];grind
 rw[Nat.add_mul,e2];rw[Nat.mul_add] at e1
 omega
theorem ShrR.done {a w:List Nat} {S:Nat} (h:ShrR a w S a.length) (r:Nat) (hr:wv a=r*S) (hS:0<S):wv w=r:=by
 have h1:=h.val;rw[bQ a _ (aj _),aA (i:=a.length),List.getElem?_eq_none (aj _)] at h1;simp only[Option.getD_none,Nat.zero_mod,Nat.mul_zero,Nat.add_zero] at h1;rw[hr] at h1;have h2:=congrArg (· % S) h1;simp only[Nat.mul_add_mod_self_right,Nat.mul_mod_left,Nat.mod_mod] at h2;rw[h2,Nat.add_zero] at h1;exact Nat.eq_of_mul_eq_mul_right hS h1
structure MacR (w w':List Nat) (m v i c:Nat):Prop where
 len:w'.length=w.length
 ws:Ws w'
 rest:∀j,i≤j→w'.getD j 0=w.getD j 0
 c1:c<BB
 val:wv (w'.take i)+BB ^ i*c=wv (w.take i)*m+v
theorem MacR.start (w:List Nat) (m v:Nat) (hw:Ws w) (hv:v<BB):MacR w w m v 0 v:=⟨rfl,hw,fun _ _=>rfl,hv,by simp[dh]⟩
theorem MacR.step {w w':List Nat} {m v i c:Nat} (h:MacR w w' m v i c) (hw:Ws w) (hm:m<BB) (hi:i<w.length) (t:Nat) (ht:t=w.getD i 0*m+c):MacR w (w'.set i (t % BB)) m v (i+1) (t / BB)∧t<BB*BB:=by
 have h2:=ip (w.getD i 0) m 0 c (hw.getD i) hm bF h.c1;rw[Nat.add_zero,←ht] at h2;refine ⟨⟨by rw[aQ];exact h.len,h.ws.set _ (Nat.mod_lt _ bF),fun j hj=>by rw[bZ _ _ _ _ (by omega)];exact h.rest j (by omega),(Nat.div_lt_iff_lt_mul bF).2 h2,?_⟩,h2⟩;rw[iq _ _ _ (by rw[h.len];omega),bq w,Nat.pow_succ,Nat.mul_assoc];have h3:=h.val;have h4:=i4 t;have e1:BB ^ i*(t % BB+BB*(t / BB))=BB ^ i*(w.getD i 0*m+c):=by rw[h4,ht]
 have e2:BB ^ i*w.getD i 0*m=BB ^ i*(w.getD i 0*m):=Nat.mul_assoc _ _ _;rw[Nat.add_mul,e2];simp only[Nat.mul_add] at *
 omega
theorem MacR.done {w w':List Nat} {m v c:Nat} (h:MacR w w' m v w.length c):wv (w'++[c])=wv w*m+v∧(c=0→wv w'=wv w*m+v)∧Ws (w'++[c]):=by
 have h1:=h.val;rw[bQ w _ (aj _),bQ w' _ (by rw[h.len];exact aj _)] at h1;refine ⟨by rw[lM,h.len];exact h1,fun hc=>by subst hc;omega,h.ws.append fun x hx=>by rw[List.mem_singleton] at hx;rw[hx];exact h.c1⟩
def ms (n:Nat):List UInt8:=List.replicate (9-(aU n).length) 48++aU n
theorem AN (k:Nat):dv (List.replicate k 48)=0:=by
 induction k with
 | zero=>rfl
 | succ k ih=>rw[List.replicate_succ,fM,ih];simp
theorem xn (n:Nat):(ms n).all isD=true:=by
 unfold ms;rw[List.all_append,bg,Bool.and_true,List.all_eq_true];intro x hx;rw[(List.mem_replicate.1 hx).2];decide
theorem y6 (n:Nat):dv (ms n)=n:=by unfold ms;rw[i6,AN,cg];simp
theorem qL (n:Nat) (h:n<1000000000):(ms n).length=9:=by
 have:=cQ (n:=n) (k:=9) (by omega) (by simpa using h);unfold ms;rw[aE,List.length_replicate];omega
theorem sS (hi lo:Nat) (h:0<hi) (hl:lo<1000000000):aU (hi*1000000000+lo)=aU hi++ms lo:=by
 have e:dv (aU hi++ms lo)=hi*1000000000+lo:=by rw[i6,cg,y6,qL lo hl]
 rw[←e];refine jU ⟨by rw[List.all_append,bg,xn];rfl,by simp[eC],.inr ?_⟩;have h1:=i5 hi (by omega)
 match hd:aU hi,eC hi with
 | c::r,_=>rw[hd] at h1;exact h1
def dN:List Nat→Nat
 | []=>0
 | x::l=>x+1000000000*dN l
theorem oX (l:List Nat) (x:Nat):dN (l++[x])=dN l+1000000000 ^ l.length*x:=by
 induction l with
 | nil=>simp[dN]
 | cons y r ih=>simp only[List.cons_append,dN,ih,aw,Nat.pow_succ];grind
def dc (l:List Nat):List UInt8:=match l.reverse with
 | []=>[]
 | x::r=>aU x++(r.map ms).flatten
theorem gO (x:Nat) (l:List Nat) (hl:l≠[]):dc (x::l)=dc l++ms x:=by
 unfold dc;rw[List.reverse_cons]
 match hr:l.reverse,(by simpa using hl:l.reverse≠[]) with
 | y::r,_=>simp
theorem sT (l:List Nat) (hl:l≠[]) (h:∀x∈l,x<1000000000) (h0:l.getLastD 0≠0):dc l=aU (dN l)∧0<dN l:=by
 induction l with
 | nil=>exact absurd rfl hl
 | cons x r ih=>
   by_cases hr:r=[]
   · subst hr;simp only[dc,dN,List.reverse_cons,List.reverse_nil,List.nil_append,List.map_nil,List.flatten_nil,List.append_nil,Nat.mul_zero,Nat.add_zero]
     simp at h0
     exact ⟨trivial,by omega⟩
   · obtain ⟨h1,h2⟩:=ih hr (fun y hy=>h y (by simp[hy])) (by match r,hr with | y::s,_=>simpa using h0);rw[gO x r hr,h1];refine ⟨?_,by simp only[dN];omega⟩;have:=sS (dN r) x h2 (h x (by simp));simp only[dN];rw[←this];congr 1;omega
theorem sU (q:List UInt8) (n i:Nat) (c:UInt8) (hq:q.length=n) (hi:i<n):lo (q.set (n-1-i) c) (i+1)=(c.toNat-48)*10 ^ i+lo q i:=by
 have hd:di (q.set (n-1-i) c) i=c.toNat-48:=by
  rw[Ag _ _ (by rw[aQ];omega)];simp only[aQ,hq,List.getElem_set_self]
 have hl:lo (q.set (n-1-i) c) i=lo q i:=by
  unfold lo;rw[aQ,List.drop_set,aF (by omega)]
 rw[jW,hd,hl]
def Dt (q:List UInt8) (i:Nat):Prop:=(q.drop (q.length-i)).all isD=true
theorem Dt.zero (q:List UInt8):Dt q 0:=by unfold Dt;rw[Nat.sub_zero,List.drop_length];rfl
theorem Dt.set {q:List UInt8} {n i:Nat} {c:UInt8} (h:Dt q i) (hq:q.length=n) (hi:i<n) (hc:isD c=true):Dt (q.set (n-1-i) c) (i+1):=by
 unfold Dt at *;rw[aQ,hq,show n-(i+1)=n-1-i by omega,List.drop_eq_getElem_cons (by rw[aQ];omega),List.getElem_set_self,List.drop_set,aF (by omega),List.all_cons,hc,Bool.true_and];rw[hq] at h;rw[show n-1-i+1=n-i by omega];exact h
theorem Dt.all {q:List UInt8} {n:Nat} (h:Dt q n) (hq:q.length=n):q.all isD=true:=by
 unfold Dt at h;rwa [hq,Nat.sub_self,List.drop_zero] at h
theorem Ah (s:Nat):(dg (s % 10)).toNat-48=s % 10:=by rw[cj (Nat.mod_lt _ (by omega))];omega
structure AddD (a b q:List UInt8) (n i c:Nat):Prop where
 len:q.length=n
 dig:Dt q i
 c1:c≤1
 eq:lo q i+c*10 ^ i=lo a i+lo b i
theorem AddD.start (a b q:List UInt8) (n:Nat) (h:q.length=n):AddD a b q n 0 0:=⟨h,Dt.zero q,by omega,by rw[gN,gN,gN,Nat.zero_mul]⟩
theorem AddD.step {a b q:List UInt8} {n i c:Nat} (h:AddD a b q n i c) (ha:a.all isD=true) (hb:b.all isD=true) (hi:i<n) (s:Nat) (hs:s=c+di a i+di b i):
    AddD a b (q.set (n-1-i) (dg (s % 10))) n (i+1) (s / 10):=by
 have h1:=Af a ha i;have h2:=Af b hb i;have h3:=h.c1;have h4:=h.eq;refine ⟨by rw[aQ];exact h.len,h.dig.set h.len hi (kG (Nat.mod_lt _ (by omega))),by omega,?_⟩;rw[sU _ _ _ _ h.len hi,jW,jW,Ah,Nat.pow_succ];have h5:s=s % 10+s / 10*10:=by omega
 generalize s % 10=u at *;generalize s / 10=v at *;subst hs;generalize 10 ^ i=p at *;generalize di a i=x at *;generalize di b i=y at *
 grind
theorem AddD.done {a b q:List UInt8} {n c:Nat} (h:AddD a b q n n c) (ha:a.all isD=true) (hb:b.all isD=true) (h1:a.length<n) (h2:b.length<n):cn q=aU (dv a+dv b):=by
 have hall:=h.dig.all h.len;have h4:=h.eq;rw[jy q n (by rw[h.len];exact aj _),jy a n (by omega),jy b n (by omega)] at h4;rw[dU q hall (fun e=>by have:=h.len;rw[e] at this;simp at this;omega)];have h5:=ir a ha;have h6:=ir b hb;have h7:10 ^ a.length≤10 ^ (n-1):=Nat.pow_le_pow_right (by omega) (by omega);have h8:10 ^ b.length≤10 ^ (n-1):=Nat.pow_le_pow_right (by omega) (by omega);have h9:10 ^ n=10*10 ^ (n-1):=by rw[←Nat.pow_succ',show (n-1).succ=n by omega]
 have hc:c=0:=by
  have hc1:=h.c1;rcases Nat.eq_zero_or_pos c with hc | hc
  · exact hc
  · obtain rfl:c=1:=by omega
    omega
 subst hc;rw[←h4,Nat.zero_mul,Nat.add_zero]
structure SubD (a b q:List UInt8) (n i c:Nat):Prop where
 len:q.length=n
 dig:Dt q i
 c1:c≤1
 eq:lo q i+lo b i=lo a i+c*10 ^ i
theorem SubD.start (a b q:List UInt8) (n:Nat) (h:q.length=n):SubD a b q n 0 0:=⟨h,Dt.zero q,by omega,by rw[gN,gN,gN,Nat.zero_mul]⟩
theorem SubD.step {a b q:List UInt8} {n i c:Nat} (h:SubD a b q n i c) (hi:i<n) (s c':Nat) (hs:s+c+di b i=di a i+10*c') (h10:s<10) (hc:c'≤1):
    SubD a b (q.set (n-1-i) (dg s)) n (i+1) c':=by
 have h4:=h.eq;refine ⟨by rw[aQ];exact h.len,h.dig.set h.len hi (kG h10),hc,?_⟩;rw[sU _ _ _ _ h.len hi,jW,jW,Nat.pow_succ,cj h10,Nat.add_sub_cancel_left];generalize 10 ^ i=p at *;generalize di a i=x at *;generalize di b i=y at *
 grind
theorem SubD.done {a b q:List UInt8} {n c:Nat} (h:SubD a b q n n c) (h0:0<n) (h1:a.length≤n) (h2:b.length≤n) (hle:dv b≤dv a):cn q=aU (dv a-dv b):=by
 have hall:=h.dig.all h.len;have h4:=h.eq;rw[jy q n (by rw[h.len];exact aj _),jy a n (by omega),jy b n (by omega)] at h4;rw[dU q hall (fun e=>by have:=h.len;rw[e] at this;simp at this;omega)];have h5:=ir q hall;rw[h.len] at h5
 have hc:c=0:=by
  have hc1:=h.c1;rcases Nat.eq_zero_or_pos c with hc | hc
  · exact hc
  · obtain rfl:c=1:=by omega
    omega
 subst hc
 congr 1;omega
def vt:List Nat→Nat
 | []=>0
 | x::r=>x*10 ^ r.length+vt r
theorem AO (L:List Nat) (k x:Nat) (hk:k<L.length):vt (L.set k (L.getD k 0+x))=vt L+x*10 ^ (L.length-1-k):=by
 induction L generalizing k with
 | nil=>simp at hk
 | cons y r ih=>
   cases k with
   | zero=>
     rw[ag,vt,vt,List.getD_cons_zero,aw,Nat.add_sub_cancel,Nat.sub_zero,Nat.add_mul]
     omega
   | succ k=>
     rw[aw] at hk;rw[ah,vt,vt,List.getD_cons_succ,ih k (by omega),aQ,aw,show r.length+1-1-(k+1)=r.length-1-k by omega]
     omega
theorem xo (n:Nat):vt (List.replicate n 0)=0:=by
 induction n with
 | zero=>rfl
 | succ n ih=>rw[List.replicate_succ,vt,ih];omega
theorem y7 (L:List Nat) (k:Nat) (hk:k<L.length):vt (L.drop k)=L.getD k 0*10 ^ (L.length-1-k)+vt (L.drop (k+1)):=by
 rw[List.drop_eq_getElem_cons hk,vt,List.length_drop,aA,ay hk,Option.getD_some,show L.length-(k+1)=L.length-1-k by omega]
def fd (l:List UInt8) (i:Nat):Nat:=(l.getD i 48).toNat-48
theorem xp (l:List UInt8) (h:l.all isD=true) (i:Nat):fd l i<10:=by
 unfold fd
 by_cases hi:i<l.length
 · rw[aA,ay hi,Option.getD_some];have:=cA.1 (List.all_eq_true.1 h _ (List.getElem_mem hi))
   omega
 · rw[aA,List.getElem?_eq_none (by omega)];decide
theorem oY (l:List UInt8) (i:Nat) (hi:i<l.length):dv (l.take (i+1))=10*dv (l.take i)+fd l i:=by
 rw[List.take_succ_eq_append_getElem hi,gM,fd,aA,ay hi,Option.getD_some]
theorem xq {k n:Nat} (h:k<n):10 ^ (n-k)=10*10 ^ (n-1-k):=by rw[←Nat.pow_succ'];congr 1;omega
structure MulD (a b:List UInt8) (L:List Nat) (i j:Nat):Prop where
 len:L.length=a.length+b.length
 le:∀k,L.getD k 0≤81*(i*b.length+j)
 eq:vt L=dv (a.take i)*10 ^ (a.length-i)*dv b+fd a i*10 ^ (a.length-1-i)*(dv (b.take j)*10 ^ (b.length-j))
theorem MulD.start (a b:List UInt8):MulD a b (List.replicate (a.length+b.length) 0) 0 0:=
 ⟨List.length_replicate,fun k=>by rw[aA,List.getElem?_replicate];split <;> simp,by rw[xo,List.take_zero,List.take_zero,fT];omega⟩
theorem MulD.step {a b:List UInt8} {L:List Nat} {i j:Nat} (h:MulD a b L i j) (ha:a.all isD=true) (hb:b.all isD=true) (hi:i<a.length) (hj:j<b.length):
    MulD a b (L.set (i+j+1) (L.getD (i+j+1) 0+fd a i*fd b j)) i (j+1):=by
 refine ⟨by rw[aQ];exact h.len,fun k=>?_,?_⟩
 · have h1:=h.le k;have h2:=h.le (i+j+1);have h3:fd a i*fd b j≤9*9:=Nat.mul_le_mul (by have:=xp a ha i;omega) (by have:=xp b hb j;omega);rw[aA,List.getElem?_set]
   split
   · split
     · rw[Option.getD_some];omega
     · simp
   · rw[←aA];omega
 · rw[AO _ _ _ (by rw[h.len];omega),h.eq,oY b j hj,h.len];have e1:10 ^ (a.length+b.length-1-(i+j+1))=10 ^ (a.length-1-i)*10 ^ (b.length-1-j):=by rw[←Nat.pow_add];congr 1;omega
   rw[e1,xq hj,show b.length-(j+1)=b.length-1-j by omega];generalize 10 ^ (a.length-1-i)=p;generalize 10 ^ (b.length-1-j)=r;generalize fd a i=x;generalize fd b j=y;generalize dv (b.take j)=z;generalize dv (a.take i)*10 ^ (a.length-i)*dv b=t
   grind
theorem MulD.next {a b:List UInt8} {L:List Nat} {i:Nat} (h:MulD a b L i b.length) (hi:i<a.length):MulD a b L (i+1) 0:=by
 refine ⟨h.len,fun k=>by have:=h.le k;rw[Nat.add_mul];omega,?_⟩;rw[h.eq,oY a i hi,List.take_length,Nat.sub_self,List.take_zero,fT,xq hi,show a.length-(i+1)=a.length-1-i by omega];generalize 10 ^ (a.length-1-i)=p
 grind
theorem MulD.done {a b:List UInt8} {L:List Nat} (h:MulD a b L a.length 0):vt L=dv a*dv b:=by
 rw[h.eq,List.take_length,Nat.sub_self,List.take_zero,fT];grind
structure CarD (L:List Nat) (q:List UInt8) (n M i c:Nat):Prop where
 len:q.length=n
 dig:Dt q i
 c1:c≤M
 eq:lo q i+c*10 ^ i=vt (L.drop (n-i))
theorem CarD.start (L:List Nat) (q:List UInt8) (n M:Nat) (hq:q.length=n) (hL:L.length=n):CarD L q n M 0 0:=
 ⟨hq,Dt.zero q,by omega,by rw[gN,Nat.sub_zero,List.drop_of_length_le (by omega)];simp[vt]⟩
theorem CarD.step {L:List Nat} {q:List UInt8} {n M i c:Nat} (h:CarD L q n M i c) (hL:L.length=n) (hM:∀k,L.getD k 0≤M) (hi:i<n) (s:Nat) (hs:s=L.getD (n-1-i) 0+c):
    CarD L (q.set (n-1-i) (dg (s % 10))) n M (i+1) (s / 10):=by
 have h3:=h.c1;have h4:=h.eq;have h6:=hM (n-1-i);refine ⟨by rw[aQ];exact h.len,h.dig.set h.len hi (kG (Nat.mod_lt _ (by omega))),by omega,?_⟩;rw[sU _ _ _ _ h.len hi,Ah,Nat.pow_succ,show n-(i+1)=n-1-i by omega,y7 L _ (by omega),show n-1-i+1=n-i by omega,←h4,hL,show n-1-(n-1-i)=i by omega];have h5:s=s % 10+s / 10*10:=by omega
 generalize s % 10=u at *;generalize s / 10=v at *;subst hs;generalize 10 ^ i=p at *;generalize L.getD (n-1-i) 0=x at *
 grind
theorem CarD.done {L:List Nat} {q:List UInt8} {n M c:Nat} (h:CarD L q n M n c) (h0:0<n) (hlt:vt L<10 ^ n):cn q=aU (vt L):=by
 have hall:=h.dig.all h.len;have h4:=h.eq;rw[jy q n (by rw[h.len];exact aj _),Nat.sub_self,List.drop_zero] at h4;rw[dU q hall (fun e=>by have:=h.len;rw[e] at this;simp at this;omega)]
 have hc:c=0:=by
  rcases Nat.eq_zero_or_pos c with hc | hc
  · exact hc
  · have:1*10 ^ n≤c*10 ^ n:=Nat.mul_le_mul_right _ hc
    omega
 subst hc;rw[←h4,Nat.zero_mul,Nat.add_zero]
structure LdD (a:List UInt8) (B:Nat) (q:List UInt8) (i R:Nat):Prop where
 len:q.length=a.length
 dig:(q.take i).all isD=true
 r1:R<B
 eq:dv (q.take i)*B+R=dv (a.take i)
theorem LdD.start (a q:List UInt8) (B:Nat) (hq:q.length=a.length) (hB:0<B):LdD a B q 0 0:=⟨hq,rfl,hB,by rw[List.take_zero,List.take_zero,fT];omega⟩
theorem LdD.step {a:List UInt8} {B:Nat} {q:List UInt8} {i R R' k:Nat} (h:LdD a B q i R) (hi:i<a.length) (hk:k<10) (hR:R'<B) (he:R'+k*B=10*R+fd a i):
    LdD a B (q.set i (dg k)) (i+1) R':=by
 have hl:=h.len
 have ht:(q.set i (dg k)).take (i+1)=q.take i++[dg k]:=by
  rw[List.take_succ_eq_append_getElem (by rw[aQ];omega),List.getElem_set_self,List.take_set,List.set_eq_of_length_le (by rw[List.length_take];omega)]
 refine ⟨by rw[aQ];exact hl,?_,hR,?_⟩
 · rw[ht,List.all_append,h.dig];simp[kG hk]
 · have:=h.eq;rw[ht,gM,oY a i hi,cj hk,←this,Nat.add_sub_cancel_left];generalize dv (q.take i)=x at *
   grind
theorem LdD.done {a:List UInt8} {B:Nat} {q:List UInt8} {R:Nat} (h:LdD a B q a.length R) (h0:a≠[]):cn q=aU (dv a / B)∧R=dv a % B:=by
 have h1:=h.eq;have h2:=h.dig;have hB:=h.r1;rw[List.take_length,aT (by rw[h.len];exact aj _)] at h1;rw[aT (by rw[h.len];exact aj _)] at h2;rw[dU q h2 (fun e=>h0 (List.length_eq_zero_iff.1 (by rw[←h.len,e];rfl)))]
 have h3:dv a / B=dv q∧dv a % B=R:=by
  rw[←h1];refine ⟨?_,?_⟩
  · rw[Nat.mul_comm,Nat.mul_add_div (by omega),Nat.div_eq_of_lt hB,Nat.add_zero]
  · rw[Nat.mul_comm,Nat.mul_add_mod,Nat.mod_eq_of_lt hB]
 exact ⟨by rw[h3.1],h3.2.symm⟩
theorem vE (R:Nat) (c:UInt8) (hc:isD c=true):cn (aU R++[c])=aU (10*R+(c.toNat-48)):=by
 rw[dU _ (by rw[List.all_append,bg];simp[hc]) (by simp),gM,cg]
theorem xr {B R d k R':Nat} (hR:R<B) (hd:d<10) (he:R'+k*B=10*R+d) (hB:B≤R'):k+1<10:=by
 rcases Nat.lt_or_ge (k+1) 10 with h | h
 · exact h
 · have:10*B≤(k+1)*B:=Nat.mul_le_mul_right _ h;rw[Nat.add_mul] at this
   omega
def en (neg:Bool) (n d:Nat):Rat:=Rat.divInt (sgn neg n) d
theorem jA (b:Bool) (n:Nat):(sgn b n).natAbs=n:=by cases b <;> simp[sgn]
theorem AP (b:Bool) (n:Nat):decide (sgn b n<0)=(b && decide (n≠0)):=by
 rw[Bool.eq_iff_iff];cases b
 · simp[sgn]
 · simp[sgn]
   omega
theorem jB (neg:Bool) (n d:Nat) (hd:0<d):(en neg n d).num=sgn neg (n / n.gcd d)∧(en neg n d).den=d / n.gcd d:=by
 unfold en;rw[Rat.divInt_ofNat,←Rat.normalize_eq_mkRat (by omega),Rat.normalize_eq];have hg:(sgn neg n).natAbs.gcd d=n.gcd d:=by rw[jA]
 simp only[hg,and_true];obtain ⟨k,hk⟩:=Nat.gcd_dvd_left n d;have hp:0<n.gcd d:=Nat.gcd_pos_of_pos_right _ hd;generalize n.gcd d=g at *;subst hk;have e:(g*k:Nat) / g=k:=Nat.mul_div_cancel_left _ hp;rw[e];cases neg
 · simp only[sgn,Bool.false_eq_true,if_false,Int.natCast_mul];exact Int.mul_ediv_cancel_left _ (by omega)
 · simp only[sgn,if_true,Int.natCast_mul];rw[←Int.mul_neg];exact Int.mul_ediv_cancel_left _ (by omega)
theorem xt (neg:Bool) (n d:Nat) (hd:0<d):decide ((en neg n d).num<0)=(neg && decide (n / n.gcd d≠0))∧(en neg n d).num.natAbs=n / n.gcd d:=by
 rw[(jB neg n d hd).1,AP,jA];exact ⟨rfl,rfl⟩
theorem jC (z:Int):sgn (decide (z<0)) z.natAbs=z:=by unfold sgn;split <;> simp_all <;> omega
theorem vF (q:Rat):en (decide (q.num<0)) q.num.natAbs q.den=q:=by
 unfold en;rw[jC];rw[Rat.divInt_ofNat,Rat.mkRat_self]
theorem uy (z:Int) (t:List UInt8):sgB (bS z++t)=decide (z<0):=by
 have h:=mo z;obtain ⟨c,r,hc,-⟩:=oc z.natAbs;unfold bS sgB at *
 by_cases hz:z<0
 · rw[aF hz] at h ⊢;exact h
 · rw[aB hz,hc] at h ⊢;exact h
theorem xu (z:Int) (t:List UInt8):ci (bS z++t)=aU z.natAbs++t:=by
 have h:=uy z t;unfold ci;rw[h];unfold bS
 by_cases hz:z<0
 · rw[aH hz,aF rfl,aF hz];rfl
 · rw[aD hz,aB (by simp),aB hz]
theorem uz {l:List UInt8} (h:∀x∈l,(x !=47)=true):dB l=l:=by
 unfold dB
 induction l with
 | nil=>rfl
 | cons c r ih=>rw[List.takeWhile_cons,aF (h c List.mem_cons_self),ih fun x hx=>h x (List.mem_cons_of_mem _ hx)]
def jk (s:List UInt8):List UInt8:=if s.contains 47 then bC s else [49]
theorem gx:aU 1=[49]:=by rw[cG (by omega)];rfl
theorem sV (q:Rat):sgB (bB q)=decide (q.num<0)∧dB (ci (bB q))=aU q.num.natAbs∧jk (ci (bB q))=aU q.den:=by
 unfold bB;rw[uy,xu];refine ⟨rfl,?_⟩;have hn:=oW q.num.natAbs 47 (by decide)
 by_cases hd:q.den=1
 · rw[aF hd,List.append_nil,uz hn,jk,iw hn,hd,gx];simp
 · rw[aB hd];obtain ⟨h1,h2,h3⟩:=sR (b:=aU q.den) hn;rw[h1,jk,h3,h2];simp
theorem sW {l:List UInt8} (h:bp l=none) (q:Rat):bB q≠l:=fun e=>by rw[←e,dX] at h;cases h
theorem sX {l:List UInt8} {q:Rat} (h:bp l=some q):sgB l=decide (q.num<0)∧dB (ci l)=aU q.num.natAbs∧jk (ci l)=aU q.den:=by
 rw[←fc h];exact sV q
theorem sY (q:Rat):bB q=(if q.num<0 then [45] else [])++(aU q.num.natAbs++(if q.den=1 then [] else 47::aU q.den)):=by
 unfold bB bS
 split <;> simp
theorem fN {n:Nat}:aU n=[49] ↔ n=1:=⟨fun h=>jT (h.trans gx.symm),fun h=>by rw[h,gx]⟩
theorem ef {n:Nat}:aU n=[48] ↔ n=0:=⟨fun h=>jT (h.trans ew.symm),fun h=>by rw[h,ew]⟩
theorem sgn_mul (a b:Bool) (m n:Nat):sgn (a !=b) (m*n)=sgn a m*sgn b n:=by
 cases a <;> cases b <;> simp[sgn,Int.mul_neg,Int.neg_mul]
theorem dY (a:Bool) (m n:Nat):sgn a (m*n)=sgn a m*n:=by cases a <;> simp[sgn,Int.neg_mul]
theorem xv (x y:Rat):en (decide (x.num<0) !=decide (y.num<0)) (x.num.natAbs*y.num.natAbs) (x.den*y.den)=x*y:=by
 unfold en;rw[sgn_mul,jC,jC,Rat.mul_def,Rat.normalize_eq_mkRat (Nat.mul_ne_zero x.den_nz y.den_nz),Rat.divInt_ofNat]
theorem qM (x y:Rat):x+y=Rat.divInt (x.num*y.den+y.num*x.den) ((x.den*y.den:Nat):Int):=by
 rw[Rat.add_def,Rat.normalize_eq_mkRat (Nat.mul_ne_zero x.den_nz y.den_nz),Rat.divInt_ofNat]
theorem og (x y:Rat) (h:decide (x.num<0)=decide (y.num<0)):en (decide (x.num<0)) (x.num.natAbs*y.den+y.num.natAbs*x.den) (x.den*y.den)=x+y:=by
 rw[qM];unfold en
 congr 1
 have h1:=dY (decide (x.num<0)) x.num.natAbs y.den;have h2:=dY (decide (y.num<0)) y.num.natAbs x.den;rw[jC] at h1 h2;rw[←h1,←h2,←h];cases decide (x.num<0) <;> simp[sgn] <;> omega
theorem kH (x y:Rat) (h:decide (x.num<0)≠decide (y.num<0)) (hle:y.num.natAbs*x.den≤x.num.natAbs*y.den):en (decide (x.num<0)) (x.num.natAbs*y.den-y.num.natAbs*x.den) (x.den*y.den)=x+y:=by
 rw[qM];unfold en
 congr 1
 have h1:=dY (decide (x.num<0)) x.num.natAbs y.den;have h2:=dY (decide (y.num<0)) y.num.natAbs x.den;rw[jC] at h1 h2;rw[←h1,←h2];generalize x.num.natAbs*y.den=m at *;generalize y.num.natAbs*x.den=n at *
 revert h
 cases decide (x.num<0) <;> cases decide (y.num<0) <;> simp[sgn] <;> omega
theorem oh (x y:Rat) (h:decide (x.num<0)≠decide (y.num<0)) (hle:x.num.natAbs*y.den≤y.num.natAbs*x.den):en (decide (y.num<0)) (y.num.natAbs*x.den-x.num.natAbs*y.den) (x.den*y.den)=x+y:=by
 have:=kH y x (Ne.symm h) hle;rwa [Rat.add_comm,Nat.mul_comm y.den] at this
theorem qN (x y:Rat) (h:y.num≠0):en (decide (x.num<0) !=decide (y.num<0)) (x.num.natAbs*y.den) (x.den*y.num.natAbs)=x / y:=by
 have hy:y≠0:=fun e=>h (by rw[e];rfl)
 have e:x / y=Rat.divInt (x.num*y.den) (x.den*y.num):=by
  rw[Rat.div_def]
  have h1:y⁻¹=Rat.divInt y.den y.num:=by
   conv=>lhs;rw[←Rat.num_divInt_den y]
   rw[Rat.inv_divInt]
  rw[h1]
  conv=>lhs;rw[←Rat.num_divInt_den x]
  rw[Rat.divInt_mul_divInt]
 rw[e];unfold en
 by_cases hn:y.num<0
 · have e2:(x.den:Int)*y.num= -((x.den*y.num.natAbs:Nat):Int):=by rw[Int.natCast_mul,←Int.mul_neg];congr 1;omega
   rw[e2,Rat.divInt_neg',aH hn]
   congr 1
   have h1:=dY (decide (x.num<0)) x.num.natAbs y.den;rw[jC] at h1;rw[←h1];cases decide (x.num<0) <;> simp[sgn]
 · have e2:(x.den:Int)*y.num=((x.den*y.num.natAbs:Nat):Int):=by rw[Int.natCast_mul];congr 1;omega
   rw[e2,aD hn,Bool.bne_false,dY,jC]
def jX (x y:Rat):Int:=if x<y then -1 else if y<x then 1 else 0
theorem mt (x y:Rat):jX x y=if x.num*y.den<y.num*x.den then -1 else if y.num*x.den<x.num*y.den then 1 else 0:=by
 unfold jX;simp only[Rat.lt_iff]
def DS (d:Nat) (q:Rat):Prop:=q.num.natAbs<10 ^ d∧q.den≤10 ^ d
theorem kI {d e:Nat} (h:d≤e):10 ^ d≤10 ^ e:=Nat.pow_le_pow_right (by omega) h
theorem fO (d:Nat):0<10 ^ d:=Nat.pow_pos (by omega)
theorem oZ {a b d e:Nat} (ha:a<10 ^ d) (hb:b≤10 ^ e):a*b<10 ^ (d+e):=by
 rw[Nat.pow_add];rcases Nat.eq_zero_or_pos b with h | h
 · subst h;rw[Nat.mul_zero];exact Nat.mul_pos (fO _) (fO _)
 · exact Nat.mul_lt_mul_of_lt_of_le ha hb (fO _)
theorem mu {a b d e:Nat} (ha:a≤10 ^ d) (hb:b≤10 ^ e):a*b≤10 ^ (d+e):=by
 rw[Nat.pow_add];exact Nat.mul_le_mul ha hb
theorem gP (neg:Bool) (n d:Nat) (hd:0<d):(en neg n d).num.natAbs≤n∧(en neg n d).den≤d:=by
 obtain ⟨h1,h2⟩:=jB neg n d hd;rw[h1,h2,jA];exact ⟨Nat.div_le_self _ _,Nat.div_le_self _ _⟩
theorem DS.red {neg:Bool} {n d k:Nat} (hn:n<10 ^ k) (hd:0<d) (hd':d≤10 ^ k):DS k (en neg n d):=by
 obtain ⟨h1,h2⟩:=gP neg n d hd;exact ⟨Nat.lt_of_le_of_lt h1 hn,aP h2 hd'⟩
theorem DS.add {d e:Nat} {p q:Rat} (hp:DS d p) (hq:DS e q):DS (d+e+1) (p+q):=by
 have h1:=oZ hp.1 hq.2;have h2:=oZ hq.1 hp.2;have h3:=mu hp.2 hq.2;rw[Nat.add_comm e d] at h2;have h4:10 ^ (d+e+1)=10*10 ^ (d+e):=Nat.pow_succ';have h5:p.num.natAbs*q.den+q.num.natAbs*p.den<10 ^ (d+e+1):=by omega
 have h6:p.den*q.den≤10 ^ (d+e+1):=by omega
 have h7:0<p.den*q.den:=Nat.mul_pos p.den_pos q.den_pos
 by_cases hs:decide (p.num<0)=decide (q.num<0)
 · rw[←og p q hs];exact DS.red h5 h7 h6
 · rcases Nat.le_total (q.num.natAbs*p.den) (p.num.natAbs*q.den) with hle | hle
   · rw[←kH p q hs hle];exact DS.red (by omega) h7 h6
   · rw[←oh p q hs hle];exact DS.red (by omega) h7 h6
theorem DS.neg {d:Nat} {p:Rat} (hp:DS d p):DS d (-p):=⟨by show (-p.num).natAbs<_;rw[Int.natAbs_neg];exact hp.1,hp.2⟩
theorem DS.div {d e:Nat} {p q:Rat} (hp:DS d p) (hq:DS e q) (h0:q.num≠0):DS (d+e) (p / q):=by
 rw[←qN p q h0];exact DS.red (oZ hp.1 hq.2) (Nat.mul_pos p.den_pos (by omega)) (mu hp.2 (aL hq.1))
theorem DS.int {d:Nat} {z:Int} (h:z.natAbs<10 ^ d):DS d (z:Rat):=⟨by rw[Rat.num_intCast];exact h,by rw[Rat.den_intCast];exact fO d⟩
theorem DS.num {d:Nat} {p:Rat} (hp:DS d p):DS d (p.num:Rat):=DS.int hp.1
theorem DS.den {d:Nat} {p:Rat} (hp:DS d p):DS (d+1) (((p.den:Int)):Rat):=DS.int (by
 rw[Int.natAbs_natCast];have:=hp.2;have:=fO d;have h4:10 ^ (d+1)=10*10 ^ d:=Nat.pow_succ'
 omega)
theorem fU (n:Nat):n<10 ^ (aU n).length:=by
 by_cases h:n=0
 · subst h;exact fO _
 · exact (jV n h).2
theorem o6 (z:Int):(aU z.natAbs).length≤(bS z).length:=by unfold bS;split <;> simp
theorem uA (z:Int):(bS z).length≤(aU z.natAbs).length+1:=by unfold bS;split <;> simp
theorem y8 (q:Rat):DS (bB q).length q:=by
 unfold bB
 constructor
 · refine aC (fU q.num.natAbs) (kI ?_);have:=o6 q.num;rw[aE];omega
 · by_cases h:q.den=1
   · rw[h];exact fO _
   · rw[aB h];refine aP (aL (fU q.den)) (kI ?_);rw[aE,aw];omega
theorem Bj {l:List UInt8} {q:Rat} (h:bp l=some q):DS l.length q:=by rw[←fc h];exact y8 q
theorem DS.decN_num {d:Nat} {q:Rat} (h:DS d q):(aU q.num.natAbs).length≤d+1:=
 cQ (by omega) (aC h.1 (kI (by omega)))
theorem DS.decN_den {d:Nat} {q:Rat} (h:DS d q):(aU q.den).length≤d+1:=
 cQ (by omega) (by
  have h4:10 ^ (d+1)=10*10 ^ d:=Nat.pow_succ';have:=h.2;have:=fO d
  omega)
theorem DS.len {d:Nat} {q:Rat} (h:DS d q):(bB q).length≤2*d+4:=by
 have h1:=h.decN_num;have h2:=h.decN_den;have h3:=uA q.num;unfold bB;rw[aE]
 split
 · simp;omega
 · rw[aw];omega
theorem DS.parts {d:Nat} {q:Rat} (h:DS d q):(bS q.num).length+(bS q.den).length≤2*d+4:=by
 have h1:=h.decN_num;have h2:=h.decN_den;have h3:=uA q.num;rw[fC];omega
theorem kJ {n d k:Nat} (h:n≤10 ^ d) (hk:d<9*k):n<BB ^ k:=by
 have h1:10 ^ (9*k)=(10 ^ 9) ^ k:=Nat.pow_mul ..;have h2:(10 ^ 9) ^ k≤BB ^ k:=Nat.pow_le_pow_left (by rw[bj];omega) k;have h3:10 ^ d<10 ^ (9*k):=Nat.pow_lt_pow_right (by omega) hk
 omega
def jD (x y:Rat):Option Rat:=some (x+y)
def AQ (x y:Rat):Option Rat:=some (x-y)
def sZ (x y:Rat):Option Rat:=some (x*y)
def lE (x y:Rat):Option Rat:=if y.num=0 then none else some (x / y)
theorem mw (f:Rat→Rat→Option Rat) (p q:Rat):on2 f (bB p) (bB q)=txt (f p q):=by unfold on2;rw[dX,dX];rfl
theorem xw (f:Rat→Option Rat) (p:Rat):on1 f (bB p)=txt (f p):=by unfold on1;rw[dX];rfl
theorem gy {f:Rat→Rat→Option Rat} {a b:List UInt8} {p q:Rat} (hp:bp a=some p) (hq:bp b=some q):on2 f a b=txt (f p q):=by unfold on2;rw[hp,hq];rfl
theorem mx {f:Rat→Rat→Option Rat} {a b:List UInt8} (hp:bp a=none):on2 f a b=[]:=by unfold on2;rw[hp];rfl
theorem kK {f:Rat→Rat→Option Rat} {a b:List UInt8} (hq:bp b=none):on2 f a b=[]:=by unfold on2;rw[hq];cases bp a <;> rfl
theorem qO {f:Rat→Option Rat} {a:List UInt8} {p:Rat} (hp:bp a=some p):on1 f a=txt (f p):=by unfold on1;rw[hp];rfl
theorem qP {f:Rat→Option Rat} {a:List UInt8} (hp:bp a=none):on1 f a=[]:=by unfold on1;rw[hp];rfl
end Nmx
namespace Go.Proofs.YtpkfnnkbfphfbaaGreatDoor
open Go.RowKit Nmx Go.Proofs.Tryz
theorem ret_int {k:IntKind} {a b:Int} (h:a=b):Ending.returned (.int k a)=.returned (.int k b):=by rw[h]
theorem ret_bool {a b:Bool} (h:a=b):Ending.returned (.bool a)=.returned (.bool b):=by rw[h]
theorem bK {a b:ByteArray} (h:a=b):Ending.returned (.string a)=.returned (.string b):=by rw[h]
theorem oi {a:Option Addr} {n m c:Nat} (h:n=m):Ending.returned (.slice a n c)=.returned (.slice a m c):=by rw[h]
theorem o7 {a b c d:Value} (h:a=c) (h':b=d):Ending.returned (.tuple #[a,b])=.returned (.tuple #[c,d]):=by rw[h,h']
theorem cM {W w1:World} (hb:Below W.heap.size W w1):(∀b o,b<W.heap.size→w1.cell? ⟨b,o,none⟩=W.cell? ⟨b,o,none⟩)∧(∀b o,b<W.heap.size→w1.frozen? ⟨b,o,none⟩=W.frozen? ⟨b,o,none⟩):=
 ⟨fun b o h=>hb.cell (p:=⟨b,o,none⟩) h,fun b o h=>hb.frozen (p:=⟨b,o,none⟩) h⟩
structure WS (w:World) (ao:Option Addr) (g off cap:Nat) (l:List Nat):Prop where
 le:l.length≤cap
 most:cap≤9223372036854775807
 ad:0<cap→ao=some ⟨g,off,none⟩
 nil:ao=none→cap=0
 blk:0<cap→∃cs fr,w.heap[g]? =some (.cells cs 207 fr)
 at_:∀i,i<l.length→w.cell? ⟨g,off+i,none⟩=some (.int .u32 ((l.getD i 0:Nat):Int))
 ws:Ws l
theorem ar {w:World} {g:Nat} {o:Obj} (h:w.heap[g]? =some o):g<w.heap.size:=(Array.getElem?_eq_some_iff.1 h).1
theorem WS.lt {w:World} {ao:Option Addr} {g off cap:Nat} {l:List Nat} (h:WS w ao g off cap l) (hc:0<cap):g<w.heap.size:=let ⟨_,_,hb⟩:=h.blk hc;ar hb
theorem WS.same {w w':World} {ao:Option Addr} {g off cap:Nat} {l:List Nat} (h:WS w ao g off cap l) (hg:0<cap→w'.heap[g]? =w.heap[g]?):WS w' ao g off cap l:=
 ⟨h.le,h.most,h.ad,h.nil,fun hc=>by rw[hg hc];exact h.blk hc,fun i hi=>(World.cell?_of_block (hg (by have:=h.le;omega))).trans (h.at_ i hi),h.ws⟩
theorem WS.far {w w':World} {ao:Option Addr} {g off cap:Nat} {l:List Nat} (h:WS w ao g off cap l) (hb:Below w.heap.size w w'):WS w' ao g off cap l:=h.same fun hc=>hb.block g (h.lt hc)
theorem WS.drewN {w:World} {ao:Option Addr} {g off cap:Nat} {l:List Nat} (h:WS w ao g off cap l) (n:Nat):WS (w.drewN n) ao g off cap l:=
 ⟨h.le,h.most,h.ad,h.nil,h.blk,h.at_,h.ws⟩
theorem WS.store {w:World} {ao:Option Addr} {g off cap:Nat} {l:List Nat} (h:WS w ao g off cap l) {p:Addr} {cs:Array Value} {t:TypeId} {fr:Nat×Nat} (hp:w.heap[p.block]? =some (.cells cs t fr)) (ht:t≠207) (u:Value):WS (w.setCell p u) ao g off cap l:=
 h.same fun hc=>by
  refine aG w p u g (fun e=>?_);obtain ⟨cs',fr',hb⟩:=h.blk hc;rw[e,hp] at hb;cases hb;exact ht rfl
theorem WS.take {w:World} {ao:Option Addr} {g off cap:Nat} {l:List Nat} (h:WS w ao g off cap l) (n:Nat):WS w ao g off cap (l.take n):=
 ⟨by rw[List.length_take];have:=h.le;omega,h.most,h.ad,h.nil,h.blk,
   fun i hi=>by
    rw[List.length_take] at hi;have e:(l.take n).getD i 0=l.getD i 0:=by rw[aA,List.getElem?_take,aF (by omega),←aA]
    rw[e];exact h.at_ i (by omega),h.ws.take n⟩
def WV (w:World) (v:Value) (l:List Nat):Prop:=∃ao g off cap,v=.slice ao l.length cap∧WS w ao g off cap l
theorem WV.far {w w':World} {v:Value} {l:List Nat} (h:WV w v l) (hb:Below w.heap.size w w'):WV w' v l:=let ⟨ao,g,off,cap,e,h⟩:=h;⟨ao,g,off,cap,e,h.far hb⟩
theorem aW {B:Nat} {a w:World} (h:Below B a w) (n:Nat):Below B a (w.drewN n):=⟨h.os,h.tape,h.output,h.size,h.block⟩
theorem WV.nil (w:World):WV w (.slice none 0 0) []:=⟨none,0,0,0,rfl,⟨aj _,by omega,fun h=>absurd h (by omega),fun _=>rfl,fun h=>absurd h (by omega),fun i hi=>by simp at hi,Ws.nil⟩⟩
theorem qQ (a b:List Nat) (hl:a.length=b.length) (ha:Ws a) (k:Nat) (hk:0<k) (hka:k≤a.length) (he:a.drop k=b.drop k) (h:a.getD (k-1) 0<b.getD (k-1) 0):wv a<wv b:=by
 obtain ⟨j,rfl⟩:∃j,k=j+1:=⟨k-1,by omega⟩
 rw[Nat.add_sub_cancel] at h;rw[eB a j (by omega),eB b j (by omega)] at h;exact AL a b hl ha j (by omega) he h
theorem vG (a b:List Nat) (hl:a.length=b.length) (k:Nat) (hk:0<k) (hka:k≤a.length) (he:a.drop k=b.drop k) (h:a.getD (k-1) 0=b.getD (k-1) 0):a.drop (k-1)=b.drop (k-1):=by
 obtain ⟨j,rfl⟩:∃j,k=j+1:=⟨k-1,by omega⟩
 rw[Nat.add_sub_cancel] at *;rw[eB a j (by omega),eB b j (by omega)] at h;rw[List.drop_eq_getElem_cons (by omega),List.drop_eq_getElem_cons (l:=b) (by omega),h,he]
theorem vH {l:List Nat} {k:Nat} (hk:0<k) (hl:k≤l.length) (h0:l.getD (k-1) 0=0):de (l.take k)=de (l.take (k-1)):=by
 obtain ⟨j,rfl⟩:∃j,k=j+1:=⟨k-1,by omega⟩
 rw[Nat.add_sub_cancel] at *;rw[List.take_succ_eq_append_getElem (by omega)];rw[eB l j (by omega)] at h0;rw[h0,fx]
theorem vI {l:List Nat} {k:Nat} (hk:0<k) (hl:k≤l.length) (h0:l.getD (k-1) 0≠0):de (l.take k)=l.take k:=by
 obtain ⟨j,rfl⟩:∃j,k=j+1:=⟨k-1,by omega⟩
 rw[Nat.add_sub_cancel] at *;rw[List.take_succ_eq_append_getElem (by omega)];rw[eB l j (by omega)] at h0;rw[fy _ _ h0]
theorem iy (ao:Option Addr) (g off cap:Nat) (l:List Nat) (w:World) (h:WS w ao g off cap l):
    Calls prog 188 #[.slice ao l.length cap] w fun e w'=>e=.returned (.slice ao (de l).length cap)∧w=w':=by
 have hle:=h.le;have hmost:=h.most;have HH:=hid h;have HT:Hid (de (l.take l.length)=de l):=hid (by rw[List.take_length]);clear h
 go_enter func188,ntmps188
 go_wp2
 go_loop [0] (fun s=>∃k:Nat,k≤l.length∧s=.slice ao k cap∧de (l.take k)=de l) (fun s=>match s with | .slice _ n _=>n | _=>0)
 case atStart=>exact ⟨l.length,aj _,rfl,HT.out⟩
 case round=>
  obtain ⟨k,hk,rfl,hr⟩:=hrel;have HR:=hid hr;clear hr;rcases Nat.eq_zero_or_pos k with h0 | h0
  · subst h0
    go_wp2
    go_ret
    exact ⟨oi (by rw[←HR.out];rfl),rfl⟩
  · have had:=HH.out.ad (by omega);subst had;have hc:=HH.out.at_ (k-1) (by omega);have HL:=hid (vH h0 hk);have HE:=hid (vI h0 hk);generalize l.getD (k-1) 0=x at *
    by_cases hx:x=0
    · subst hx;have hp:(0:Int)<(k:Int):=by omega
      have hi1:(0:Int)≤(k:Int)-1:=by omega
      have hi2:((k:Int)-1).toNat=k-1:=by omega
      go_wp2
      go_round
      case rel=>exact ⟨k-1,by omega,by simp,by rw[←HR.out,HL.out rfl]⟩
      case measure=>simp;omega
    · have hxb:((x:Int)==0)=false:=by simp;omega
      have hp:(0:Int)<(k:Int):=by omega
      have hi1:(0:Int)≤(k:Int)-1:=by omega
      have hi2:((k:Int)-1).toNat=k-1:=by omega
      have HE2:=hid (HE.out hx);clear hx
      go_wp2
      go_ret
      exact ⟨oi (by rw[←HR.out,HE2.out,List.length_take,Nat.min_eq_left hk]),rfl⟩
def eS (a b:Nat):Int:=if a<b then -1 else if b<a then 1 else 0
theorem i8 {a b:Nat} (h:a<b):eS a b= -1:=by unfold eS;rw[aF h]
theorem gQ {a b:Nat} (h:b<a):eS a b=1:=by unfold eS;rw[aB (by omega),aF h]
theorem ja {a b:Nat} (h:a=b):eS a b=0:=by unfold eS;rw[aB (by omega),aB (by omega)]
theorem eY (ao:Option Addr) (g off cap:Nat) (a:List Nat) (bo:Option Addr) (g' off' cap':Nat) (b:List Nat) (w:World) (ha:WS w ao g off cap a) (hb:WS w bo g' off' cap' b) (na:em a) (nb:em b):
    Calls prog 182 #[.slice ao a.length cap,.slice bo b.length cap'] w fun e w'=>e=.returned (.int .i64 (eS (wv a) (wv b)))∧∃n,w'=w.drewN n:=by
 have hal:=ha.le;have ham:=ha.most;have hbl:=hb.le;have hbm:=hb.most;have HA:=hid ha;have HB:=hid hb;have NA:=hid na;have NB:=hid nb;clear ha hb na nb
 by_cases h1:a.length<b.length
 · have HR:=hid (i8 (eK a b NA.out NB.out h1));have h1':(a.length:Int)<(b.length:Int):=by omega
   go_enter func182,ntmps182
   go_wp2
   go_ret
   exact ⟨ret_int HR.out.symm,0,rfl⟩
 · by_cases h2:b.length<a.length
   · have HR:=hid (gQ (eK b a NB.out NA.out h2));have h1':¬(a.length:Int)<(b.length:Int):=by omega
     have h2':(b.length:Int)<(a.length:Int):=by omega
     go_enter func182,ntmps182
     go_wp2
     go_ret
     exact ⟨ret_int HR.out.symm,0,rfl⟩
   · have hl:a.length=b.length:=by omega
     have HL:=hid hl;have h1':¬(a.length:Int)<(b.length:Int):=by omega
     have h2':¬(b.length:Int)<(a.length:Int):=by omega
     clear hl
     go_enter func182,ntmps182
     go_wp2
     go_loopw [5] (fun i wr=>∃(k n:Nat),k≤a.length∧i=.int .i64 ((k:Int)-1)∧a.drop k=b.drop k∧wr=w.drewN n) (fun i _=>(intOf i+1).toNat)
     case atStart=>exact ⟨a.length,0,aj _,rfl,by rw[List.drop_of_length_le (aj _),List.drop_of_length_le (by have:=HL.out;omega)],rfl⟩
     case round=>
      obtain ⟨k,n,hk,rfl,hd,rfl⟩:=hrel;have HD:=hid hd;clear hd;rcases Nat.eq_zero_or_pos k with h0 | h0
      · subst h0;have HR:Hid (eS (wv a) (wv b)=0):=hid (ja (by have:=HD.out;rw[List.drop_zero,List.drop_zero] at this;rw[this]))
        go_wp2
        go_ret
        exact ⟨ret_int HR.out.symm,n,rfl⟩
      · have hca:=HA.out.at_ (k-1) (by omega);have hcb:=HB.out.at_ (k-1) (by have:=HL.out;omega);have hda:=HA.out.ad (by omega);have hdb:=HB.out.ad (by omega);subst hda hdb;have hp:(0:Int)≤(k:Int)-1:=by omega
        have hi2:((k:Int)-1).toNat=k-1:=by omega
        have hi3:(k:Int)-1<(a.length:Int):=by omega
        have hi4:(k:Int)-1<(b.length:Int):=by omega
        have HT1:=hid (qQ a b HL.out NA.out.1 k h0 hk HD.out);have HT2:=hid (qQ b a HL.out.symm NB.out.1 k h0 (by have:=HL.out;omega) HD.out.symm);have HE:=hid (vG a b HL.out k h0 hk HD.out);generalize a.getD (k-1) 0=x at *;generalize b.getD (k-1) 0=y at *
        by_cases hxy:x<y
        · have HR:=hid (i8 (HT1.out hxy));have h3:(x:Int)<(y:Int):=by omega
          go_wp2
          go_quiet (fail)
          go_wp2
          go_ret
          exact ⟨ret_int HR.out.symm,by simp only[World.drewN_drewN];exact ⟨_,rfl⟩⟩
        · by_cases hyx:y<x
          · have HR:=hid (gQ (HT2.out hyx));have h3:¬(x:Int)<(y:Int):=by omega
            have h4:(y:Int)<(x:Int):=by omega
            go_wp2
            go_quiet (fail)
            go_wp2
            go_quiet (fail)
            go_wp2
            go_ret
            exact ⟨ret_int HR.out.symm,by simp only[World.drewN_drewN];exact ⟨_,rfl⟩⟩
          · have HR:=hid (HE.out (by omega));have h3:¬(x:Int)<(y:Int):=by omega
            have h4:¬(y:Int)<(x:Int):=by omega
            go_wp2
            go_quiet (fail)
            go_wp2
            go_quiet (fail)
            go_wp2
            go_roundw
            case rel=>exact ⟨k-1,_,by omega,by congr 1;omega,HR.out,rfl⟩
            case measure=>simp[intOf];omega
def bT (l:List Nat):List Value:=l.map fun n:Nat=>Value.int .u32 (n:Int)
theorem lN (l:List Nat) (i:Nat) (hi:i<l.length):(bT l)[i]? =some (.int .u32 ((l.getD i 0:Nat):Int)):=by simp[bT,hi]
theorem iz (l:List Nat):(bT l).length=l.length:=by simp[bT]
theorem WS.new (w:World) (l:List Nat) (h:Ws l) (hl:l.length≤1000000000):WS (w.alloc (.cells (bT l).toArray 207)) (some ⟨w.heap.size,0,none⟩) w.heap.size 0 l.length l:=by
 refine ⟨aj _,by omega,fun _=>rfl,(fun h=>by cases h),fun _=>⟨_,_,aq w _⟩,fun i hi=>?_,h⟩;rw[cell_of_row _ _ _ _ _ _ (aq w _),Nat.zero_add]
 simpa using lN l i hi
theorem vJ (n:Nat) (hn:n<18446744073709551616):n % 4294967296<BB∧n / 4294967296<BB∧wv [n % 4294967296,n / 4294967296]=n:=by
 rw[bj];refine ⟨Nat.mod_lt _ (by omega),by omega,?_⟩;simp only[ee,dh,bj]
 omega
def kL (n:Nat) (w:World) (e:Ending) (w':World):Prop:=∃v l,e=.returned v∧WV w' v l∧em l∧wv l=n∧l.length≤2∧Below w.heap.size w w'
theorem lp (n:Nat) (w:World) (hn:n<18446744073709551616):
    Calls prog 213 #[.int .u64 n] w (kL n w):=by
 rcases Nat.eq_zero_or_pos n with hz | hz
 · subst hz
   go_enter func213,ntmps213
   go_wp2
   go_ret
   exact ⟨_,[],rfl,WV.nil _,⟨Ws.nil,fun x hx=>by cases hx⟩,rfl,by simp,am _ _⟩
 · have hzb:((n:Int)==0)=false:=by simp;omega
   by_cases hs:n<4294967296
   · have hq:((n:Int) / 4294967296==0)=true:=by simp;omega
     go_enter func213,ntmps213
     go_wp2
     go_ret
     have hW:Ws [n]:=Ws.cons (by rw[bj];exact hs) Ws.nil;exact ⟨_,[n],rfl,⟨_,_,_,_,rfl,WS.new w [n] hW (by simp)⟩,⟨hW,fun x hx=>by simp at hx;omega⟩,oU n,by simp,(am _ _).alloc (aj _) _⟩
   · have hq:((n:Int) / 4294967296==0)=false:=by simp;omega
     go_enter func213,ntmps213
     go_wp2
     go_ret
     obtain ⟨h1,h2,h3⟩:=vJ n hn;have hW:Ws [n % 4294967296,n / 4294967296]:=Ws.cons h1 (Ws.cons h2 Ws.nil);have e1:(n:Int) % 4294967296=((n % 4294967296:Nat):Int):=by omega
     have e2:(n:Int) / 4294967296=((n / 4294967296:Nat):Int):=by omega
     rw[e1,e2];exact ⟨_,[n % 4294967296,n / 4294967296],rfl,⟨_,_,_,_,rfl,WS.new w _ hW (by simp)⟩,⟨hW,fun x hx=>by simp at hx;omega⟩,h3,by simp,(am _ _).alloc (aj _) _⟩
def set3 (w:World) (R:Nat) (x y z:Value):World:=((w.setCell ⟨R,0,none⟩ x).setCell ⟨R,1,none⟩ y).setCell ⟨R,2,none⟩ z
def cV (z:Int):Value:=.agg #[.int .i64 z,.bool false,.slice none 0 0]
def iA (b:Bool) (ao:Option Addr) (n cap:Nat):Value:=.agg #[.int .i64 0,.bool b,.slice ao n cap]
def aV (z:Int):Prop:= -9223372036854775807≤z∧z≤9223372036854775807
def Big (l:List Nat):Prop:=em l∧¬aV (wv l)∧l.length≤1000000
def IV (w:World) (v:Value) (z:Int):Prop:=
 (v=cV z∧aV z)∨∃b g off cap l,v=iA b (some ⟨g,off,none⟩) l.length cap∧WS w (some ⟨g,off,none⟩) g off cap l∧Big l∧z=sgn b (wv l)
instance smallDec (z:Int):Decidable (aV z):=inferInstanceAs (Decidable (_∧_))
theorem IV.far {w w':World} {v:Value} {z:Int} (h:IV w v z) (hb:Below w.heap.size w w'):IV w' v z:=by
 rcases h with h | ⟨b,g,off,cap,l,h1,h2,h3,h4⟩
 · exact .inl h
 · exact .inr ⟨b,g,off,cap,l,h1,h2.far hb,h3,h4⟩
theorem Big.pos {l:List Nat} (h:Big l):0<wv l∧1<wv l:=by
 have:=h.2.1;unfold aV at this
 omega
theorem jb {b:Bool} {l:List Nat} (h:Big l):¬aV (sgn b (wv l))∧(sgn b (wv l)<0 ↔ b=true):=by
 have h1:=h.2.1;have h2:=h.pos;unfold aV sgn at *;cases b <;> simp <;> omega
theorem cw (w:World) {z:Int} (h:aV z):IV w (cV z) z:=.inl ⟨rfl,h⟩
def dd (z:Int):Int:=if z<0 then -1 else if 0<z then 1 else 0
theorem uB (w:World) (a:Addr) (n c:Nat):(binOp .neq 71 (.slice (some a) n c) (.slice none 0 0)).run prog w=.ok (.bool true) w:=run_neq_slice_nil_any w _ _ (some a) n c 0 0 underlying71
theorem qR (w:World):(binOp .neq 71 (.slice none 0 0) (.slice none 0 0)).run prog w=.ok (.bool false) w:=run_neq_slice_nil_any w _ _ none 0 0 0 0 underlying71
theorem cB (w:World) (a:Addr) (n c:Nat):(binOp .eql 71 (.slice (some a) n c) (.slice none 0 0)).run prog w=.ok (.bool false) w:=Lib.run_eql_slice_nil w _ _ (some a) n c 0 0 underlying71
theorem bJ (w:World):(binOp .eql 71 (.slice none 0 0) (.slice none 0 0)).run prog w=.ok (.bool true) w:=Lib.run_eql_slice_nil w _ _ none 0 0 0 0 underlying71
theorem fD (v:Value) (z:Int) (w:World) (h:IV w v z):
    Calls prog 84 #[v] w fun e w'=>e=.returned (.int .i64 (dd z))∧Below w.heap.size w w':=by
 have kq:=uB;have kq0:=qR;rcases h with ⟨rfl,hs⟩ | ⟨b,g,off,cap,l,rfl,hw,hl,rfl⟩
 · unfold cV
   go_enter func84,ntmps84
   go_wp2
   all_goals go_ret
   all_goals exact ⟨ret_int (by unfold dd;grind),(am _ _).alloc (aj _) _⟩
 · have hsg:=(jb (b:=b) hl).2;have hz:¬sgn b (wv l)=0:=fun e=>(jb (b:=b) hl).1 (by rw[e];unfold aV;omega)
   unfold iA;cases b
   · have HR:Hid (dd (sgn false (wv l))=1):=hid (by unfold dd;grind);clear hsg hz
     go_enter func84,ntmps84
     go_wp2
     go_ret
     exact ⟨ret_int HR.out.symm,(am _ _).alloc (aj _) _⟩
   · have HR:Hid (dd (sgn true (wv l))= -1):=hid (by unfold dd;grind);clear hsg hz
     go_enter func84,ntmps84
     go_wp2
     go_ret
     exact ⟨ret_int HR.out.symm,(am _ _).alloc (aj _) _⟩
theorem dV (v:Value) (z:Int) (w:World) (h:IV w v z):
    Calls prog 86 #[v] w fun e w'=>e=.returned (.bool (decide (z=0)))∧Below w.heap.size w w':=by
 have kq:=cB;have kq0:=bJ;rcases h with ⟨rfl,hs⟩ | ⟨b,g,off,cap,l,rfl,hw,hl,rfl⟩
 · unfold cV
   go_enter func86,ntmps86
   go_wp2
   go_ret
   exact ⟨ret_bool (by rw[Bool.eq_iff_iff];simp),(am _ _).alloc (aj _) _⟩
 · have hn:=(jb (b:=b) hl).1;have HR:Hid (decide (sgn b (wv l)=0)=false):=hid (aD fun e=>hn (by rw[e];unfold aV;omega));clear hn;unfold iA
   go_enter func86,ntmps86
   go_wp2
   go_ret
   exact ⟨ret_bool HR.out.symm,(am _ _).alloc (aj _) _⟩
theorem fe (v:Value) (z:Int) (w:World) (h:IV w v z):
    Calls prog 85 #[v] w fun e w'=>e=.returned (.bool (decide (z=1)))∧Below w.heap.size w w':=by
 have kq:=cB;have kq0:=bJ;rcases h with ⟨rfl,hs⟩ | ⟨b,g,off,cap,l,rfl,hw,hl,rfl⟩
 · unfold cV
   go_enter func85,ntmps85
   go_wp2
   go_ret
   exact ⟨ret_bool (by rw[Bool.eq_iff_iff];simp),(am _ _).alloc (aj _) _⟩
 · have hn:=(jb (b:=b) hl).1;have HR:Hid (decide (sgn b (wv l)=1)=false):=hid (aD fun e=>hn (by rw[e];unfold aV;omega));clear hn;unfold iA
   go_enter func85,ntmps85
   go_wp2
   go_ret
   exact ⟨ret_bool HR.out.symm,(am _ _).alloc (aj _) _⟩
def cD (z:Int) (w:World) (e:Ending) (w':World):Prop:=∃v,e=.returned v∧IV w' v z∧Below w.heap.size w w'
theorem vK {z:Int} (h:aV z):aV (-z):=by unfold aV at *;omega
theorem zc (b:Bool) (n:Nat):sgn (!b) n= -sgn b n:=by cases b <;> simp[sgn]
theorem o8 (v:Value) (z:Int) (w:World) (h:IV w v z):Calls prog 176 #[v] w (cD (-z) w):=by
 have kq:=cB;have kq0:=bJ;rcases h with ⟨rfl,hs⟩ | ⟨b,g,off,cap,l,rfl,hw,hl,rfl⟩
 · have h1: -9223372036854775807≤z:=hs.1;have h2:z≤9223372036854775807:=hs.2;unfold cV
   go_enter func176,ntmps176
   go_wp2
   exact bodyPost_ret (v:=cV (-z)) (by simp[results,results176,go_sem,cV]) rfl ⟨_,rfl,cw _ (vK hs),((am _ _).alloc (aj _) _).alloc (by simp) _⟩
 · unfold iA
   go_enter func176,ntmps176
   go_wp2
   have hbl:Below w.heap.size w ((w.alloc (.cells #[.int .i64 0,.bool b,.slice (some ⟨g,off,none⟩) l.length cap] 73)).alloc (.cells #[.int .i64 0,.bool !b,.slice (some ⟨g,off,none⟩) l.length cap] 73)):=
    ((am _ _).alloc (aj _) _).alloc (by simp) _
   exact bodyPost_ret (v:=iA (!b) (some ⟨g,off,none⟩) l.length cap) (by simp[results,results176,go_sem,iA]) rfl
    ⟨_,rfl,.inr ⟨!b,g,off,cap,l,rfl,hw.far hbl,hl,(zc b _).symm⟩,hbl⟩
theorem IV.alloc_of {w:World} {v:Value} {z:Int} (h:IV w v z) (o:Obj):IV (w.alloc o) v z:=h.far ((am _ _).alloc (aj _) _)
theorem IV.store {w:World} {v:Value} {z:Int} (h:IV w v z) {p:Addr} {cs:Array Value} {t:TypeId} {fr:Nat×Nat} (hp:w.heap[p.block]? =some (.cells cs t fr)) (ht:t≠207) (u:Value):IV (w.setCell p u) v z:=by
 rcases h with h | ⟨b,g,off,cap,l,h1,h2,h3,h4⟩
 · exact .inl h
 · exact .inr ⟨b,g,off,cap,l,h1,h2.store hp ht u,h3,h4⟩
theorem heap_set {w:World} {R:Nat} {cs:Array Value} {t:TypeId} {fr:Nat×Nat} (h:w.heap[R]? =some (.cells cs t fr)) (i:Nat) (u:Value):(w.setCell ⟨R,i,none⟩ u).heap[R]? =some (.cells (cs.setIfInBounds i u) t fr):=by
 simp[World.setCell,Array.getElem?_modify,h]
theorem aa {w:World} {R:Nat} {cs:Array Value} {t:TypeId} {fr:Nat×Nat} (h:w.heap[R]? =some (.cells cs t fr)) (i:Nat):w.cell? ⟨R,i,none⟩=cs[i]? :=cell_of_row w R i cs t fr h
theorem aK {w:World} {R:Nat} {cs:Array Value} {t:TypeId} (h:w.heap[R]? =some (.cells cs t (0,0))) (i:Nat):w.frozen? ⟨R,i,none⟩=false:=by simp[World.frozen?,h]
theorem aY {w:World} {v:Value} {z:Int} (h:IV w v z):∃s b ao n c,v=.agg #[.int .i64 s,.bool b,.slice ao n c]:=by
 rcases h with ⟨rfl,_⟩ | ⟨b,g,off,cap,l,rfl,_⟩
 · exact ⟨_,_,_,_,_,rfl⟩
 · exact ⟨_,_,_,_,_,rfl⟩
theorem IV.set3 {w:World} {v:Value} {z:Int} (h:IV w v z) {R:Nat} {cs:Array Value} (hR:w.heap[R]? =some (.cells cs 73 (0,0))) (x y u:Value):IV (set3 w R x y u) v z:=
 ((h.store (p:=⟨R,0,none⟩) hR (by decide) x).store (p:=⟨R,1,none⟩) (heap_set hR 0 x) (by decide) y).store (p:=⟨R,2,none⟩) (heap_set (heap_set hR 0 x) 1 y) (by decide) u
theorem bM (w:World) (o o':Obj):((w.alloc o).alloc o').heap[w.heap.size+1]? =some o':=by
 have:=aq (w.alloc o) o'
 simpa using this
theorem dH {fn:Func} {t:Tmp} {a:Act} {w w2:World} {R:Nat} {z s:Int} {b:Bool} {ao:Option Addr} {n c:Nat} {x0 x1 x2:Value} (hres:fn.results=#[.cell t 73]) (hd:a.defers=[]) (ht:a.tmps.getD t undef=.pointer (some ⟨R,0,none⟩))
    (hR:w2.heap[R]? =some (.cells #[x0,x1,x2] 73 (0,0))) (hv:IV w2 (.agg #[.int .i64 s,.bool b,.slice ao n c]) z) (hb:Below w.heap.size w w2) (hRB:w.heap.size≤R):
    bodyPost prog fn (cD z w) .ret a (((w2.setCell ⟨R,0,none⟩ (.int .i64 s)).setCell ⟨R,1,none⟩ (.bool b)).setCell ⟨R,2,none⟩ (.slice ao n c)):=by
 have h3:=heap_set (heap_set (heap_set hR 0 (.int .i64 s)) 1 (.bool b)) 2 (.slice ao n c);have k0:=aa h3 0;have k1:=aa h3 1;have k2:=aa h3 2;have hiv:=hv.set3 hR (.int .i64 s) (.bool b) (.slice ao n c);have hbl:=((hb.setCell (show w.heap.size≤(⟨R,0,none⟩:Addr).block from hRB) (.int .i64 s)).setCell (show w.heap.size≤(⟨R,1,none⟩:Addr).block from hRB) (.bool b)).setCell (show w.heap.size≤(⟨R,2,none⟩:Addr).block from hRB) (.slice ao n c);unfold set3 at hiv;generalize ((w2.setCell ⟨R,0,none⟩ (.int .i64 s)).setCell ⟨R,1,none⟩ (.bool b)).setCell ⟨R,2,none⟩ (.slice ao n c)=w3 at *;simp only[Array.setIfInBounds,Array.set,List.set,Array.size,List.length] at k0 k1 k2
 simp at k0 k1 k2
 refine bodyPost_ret (v:=.agg #[.int .i64 s,.bool b,.slice ao n c]) ?_ hd ⟨_,rfl,hiv,hbl⟩;have ht':a.tmps[t]?.getD undef=.pointer (some ⟨R,0,none⟩):=by simpa using ht
 simp[results,hres,go_sem,ht',k0,k1,k2]
theorem ol:wv [0,2147483648]=9223372036854775808:=by rw[ee,ee,dh,bj]
theorem zd:sgn true (wv [0,2147483648])= -9223372036854775808:=by rw[ol];rfl
theorem uC:Big [0,2147483648]:=by
 refine ⟨⟨Ws.cons bF (Ws.cons (by rw[bj];omega) Ws.nil),fun x hx=>by simp at hx;omega⟩,?_,by simp⟩;rw[ol];unfold aV;omega
theorem jp (z:Int) (w:World) (h1: -9223372036854775808≤z) (h2:z≤9223372036854775807):
    Calls prog 180 #[.int .i64 z] w (cD z w):=by
 by_cases hz:z= -9223372036854775808
 · have hzb:(z== -9223372036854775808)=true:=by simp[hz]
   have HZ:=hid hz;clear hz
   go_enter func180,ntmps180
   go_wp2
   have hbl:Below w.heap.size w ((w.alloc (.cells #[.int .i64 0,.bool true,.slice (some ⟨w.heap.size+1,0,none⟩) 2 2] 73)).alloc (.cells #[.int .u32 0,.int .u32 2147483648] 207)):=
    ((am _ _).alloc (aj _) _).alloc (by simp) _
   have hws:=WS.new (w.alloc (.cells #[.int .i64 0,.bool true,.slice (some ⟨w.heap.size+1,0,none⟩) 2 2] 73)) [0,2147483648] uC.1.1 (by simp)
   exact bodyPost_ret (v:=iA true (some ⟨w.heap.size+1,0,none⟩) 2 2) (by simp[results,results180,go_sem,iA]) rfl
    ⟨_,rfl,.inr ⟨true,w.heap.size+1,0,2,[0,2147483648],rfl,by simpa [bT] using hws,uC,by rw[HZ.out,zd]⟩,hbl⟩
 · have hzb:(z== -9223372036854775808)=false:=by simp[hz]
   have hs:aV z:=by unfold aV;omega
   clear hz
   go_enter func180,ntmps180
   go_wp2
   exact bodyPost_ret (v:=cV z) (by simp[results,results180,go_sem,cV]) rfl ⟨_,rfl,cw _ hs,(am _ _).alloc (aj _) _⟩
theorem lO (v:Value) (z:Int) (w:World) (h:IV w v z):Calls prog 126 #[v] w (cD z.natAbs w):=by
 have hsg:=fun (o o':Obj)=>fD v z ((w.alloc o).alloc o') ((h.alloc_of o).alloc_of o')
 have hng:=fun (w':World) (hb:Below w.heap.size w w')=>o8 v z w' (h.far hb)
 have HH:=hid h;obtain ⟨s,b,ao,n,c,rfl⟩:=aY h;clear h
 by_cases hz:z<0
 · have h1:dd z= -1:=by unfold dd;rw[aF hz]
   rw[h1] at hsg;have HZ:Hid (-z=(z.natAbs:Int)):=hid (by omega);clear h1
   go_enter func126,ntmps126
   go_wp2_with fail
   refine (hsg _ _).mono ?_;rintro e w1 ⟨rfl,hb⟩;obtain ⟨hc,hf⟩:=cM hb;have hz:w.heap.size+1<w1.heap.size:=by have:=hb.size;simp at this;omega
   have HB:=hid (((am w.heap.size w).alloc (aj _) _).alloc (by simp) _ |>.trans (hb.mono (by simp;omega)));have HR:=hid ((hb.block (w.heap.size+1) (by simp)).trans (bM w _ _));clear hb
   go_wp2_with fail
   refine (hng _ HB.out).mono ?_;rintro e w2 ⟨v2,rfl,hv2,hb2⟩;have HV2:=hid hv2;obtain ⟨s2,b2,a2,n2,c2,rfl⟩:=aY hv2;obtain ⟨hc2,hf2⟩:=cM hb2;have HB2:=hid (HB.out.trans (hb2.mono HB.out.size));have HR2:=hid ((hb2.block (w.heap.size+1) hz).trans HR.out);clear hb2 hv2
   go_wp2
   rw[←HZ.out];exact dH results126 rfl rfl HR2.out HV2.out HB2.out (by omega)
 · have h1:¬dd z<0:=by unfold dd;grind
   have HZ:Hid (z=(z.natAbs:Int)):=hid (by omega)
   go_enter func126,ntmps126
   go_wp2_with fail
   refine (hsg _ _).mono ?_;rintro e w1 ⟨rfl,hb⟩;obtain ⟨hc,hf⟩:=cM hb;have hz:w.heap.size+1<w1.heap.size:=by have:=hb.size;simp at this;omega
   have HB:=hid (((am w.heap.size w).alloc (aj _) _).alloc (by simp) _ |>.trans (hb.mono (by simp;omega)));have HR:=hid ((hb.block (w.heap.size+1) (by simp)).trans (bM w _ _));clear hb
   go_wp2
   rw[←HZ.out];exact dH results126 rfl rfl HR.out (HH.out.far HB.out) HB.out (by omega)
def vL (z:Int) (w:World) (e:Ending) (w':World):Prop:=
 ∃v l,e=.returned (.tuple #[.bool (decide (z<0)),v])∧WV w' v l∧em l∧wv l=z.natAbs∧l.length≤1000000∧Below w.heap.size w w'
theorem bd (v:Value) (z:Int) (w:World) (h:IV w v z):Calls prog 177 #[v] w (vL z w):=by
 have kq:=uB;have kq0:=qR;rcases h with ⟨rfl,hs⟩ | ⟨b,g,off,cap,l,rfl,hw,hl,rfl⟩
 · have h1: -9223372036854775807≤z:=hs.1;have h2:z≤9223372036854775807:=hs.2;have hwo:=fun o:Obj=>lp z.natAbs (w.alloc o) (by omega)
   unfold cV
   by_cases hz:z<0
   · have e1:(-z:Int)=(z.natAbs:Int):=by omega
     have HE:=hid e1;clear e1;have hd:decide (z<0)=true:=by simpa using hz
     go_enter func177,ntmps177
     have hwo2:∀o:Obj,Calls prog 213 #[.int .u64 (-z)] (w.alloc o) (kL z.natAbs (w.alloc o)):=fun o=>by rw[HE.out];exact hwo o
     go_wp2_with fail
     refine (hwo2 _).mono ?_;rintro e w' ⟨v,l,rfl,hwv,hn,hv,hlen,hb⟩
     go_wp2
     go_ret2
     exact ⟨_,l,o7 (congrArg Value.bool hd.symm) rfl,hwv,hn,hv,by omega,((am _ _).alloc (aj _) _).trans (hb.mono (by simp))⟩
   · have e1:(z:Int)=(z.natAbs:Int):=by omega
     have HE:=hid e1;clear e1;have hd:decide (z<0)=false:=by simpa using hz
     have hz0:0≤z:=by omega
     have hwo2:∀o:Obj,Calls prog 213 #[.int .u64 z] (w.alloc o) (kL z.natAbs (w.alloc o)):=fun o=>by
      have:=hwo o;rw[←HE.out] at this;exact this
     go_enter func177,ntmps177
     go_wp2_with fail
     refine (hwo2 _).mono ?_;rintro e w' ⟨v,l,rfl,hwv,hn,hv,hlen,hb⟩
     go_wp2
     go_ret2
     exact ⟨_,l,o7 (congrArg Value.bool hd.symm) rfl,hwv,hn,hv,by omega,((am _ _).alloc (aj _) _).trans (hb.mono (by simp))⟩
 · have hsg:=(jb (b:=b) hl).2;have hd:decide (sgn b (wv l)<0)=b:=by cases b <;> simp[hsg]
   have HD:=hid hd;have habs:(sgn b (wv l)).natAbs=wv l:=by cases b <;> simp[sgn]
   have HA:=hid habs;clear hsg hd habs;unfold iA
   go_enter func177,ntmps177
   go_wp2
   go_quiet (fail)
   go_wp2
   go_ret2
   have hbl:Below w.heap.size w ((w.alloc (.cells #[.int .i64 0,.bool b,.slice (some ⟨g,off,none⟩) l.length cap] 73))):=(am _ _).alloc (aj _) _;exact ⟨_,l,o7 (congrArg Value.bool HD.out.symm) rfl,⟨_,g,off,cap,rfl,(hw.far hbl).drewN _⟩,hl.1,HA.out.symm,hl.2.2,aW hbl _⟩
theorem jY (n x:Nat) (hn:n<4294967296) (hx:x<4294967296):bits .or .u64 ((n:Int)*4294967296) (x:Int)=((x+4294967296*n:Nat):Int):=by
 have e:(n:Int)*4294967296=((n*4294967296:Nat):Int):=by omega
 rw[e,u64_or_nat _ _ (by omega) (by omega),nat_join 32 _ _ (by omega) (by omega)]
 omega
theorem vM {t:List Nat} (ht:Ws t) (h2:t.length≤2) {k:Nat} (hk:0<k) (hl:k≤t.length):wv (t.drop k)<4294967296∧t.getD (k-1) 0<4294967296∧wv (t.drop (k-1))=t.getD (k-1) 0+4294967296*wv (t.drop k):=by
 have h1:=eW _ (ht.drop k);have h3:=ht.getD (k-1);have h4:=cN t (k-1) (by omega);rw[show k-1+1=k by omega] at h4;have h5:BB ^ (t.drop k).length≤BB ^ 1:=Nat.pow_le_pow_right bF (by rw[List.length_drop];omega);rw[Nat.pow_one] at h5;rw[bj] at *;exact ⟨by omega,h3,h4⟩
theorem AS {t:List Nat} (ht:Ws t) (h2:t.length≤2):wv t<18446744073709551616:=by
 have h1:=eW _ ht;have h5:BB ^ t.length≤BB ^ 2:=Nat.pow_le_pow_right bF h2;rw[bj] at *
 omega
theorem xx {t:List Nat} (ht:em t) (h2:2<t.length):¬aV (wv t):=by
 have h1:=jS t ht (fun e=>by subst e;simp at h2);have h5:BB ^ 2≤BB ^ (t.length-1):=Nat.pow_le_pow_right bF (by omega);rw[bj] at *;unfold aV
 omega
theorem xz (n:Nat):sgn true n= -(n:Int):=rfl
theorem vO (n:Nat):sgn false n=(n:Int):=rfl
theorem kM {b:Bool} {n:Nat} (h:n≤9223372036854775807):aV (sgn b n):=by unfold aV;cases b <;> simp[sgn] <;> omega
theorem cr (neg:Bool) (v:Value) (l:List Nat) (w:World) (h:WV w v l) (hl:l.length≤1000000):Calls prog 174 #[.bool neg,v] w (cD (sgn neg (wv l)) w):=by
 obtain ⟨ao,g,off,cap,rfl,hw⟩:=h;have htr:=fun o:Obj=>iy ao g off cap l (w.alloc o) (hw.far ((am _ _).alloc (aj _) _))
 have htn:=ml l hw.ws;have hwv:=gn l;have htl:=e6 l;have hW:WS w ao g off cap (de l):=by rw[fA];exact hw.take _
 rw[←hwv];clear hwv;have hcap:=hw.most;have hle:=hw.le;clear hw;generalize de l=t at *;have HW:=hid hW;have HN:=hid htn;clear hW htn
 by_cases h2:t.length≤2
 · have hlt:=AS HN.out.1 h2;have HLT:=hid hlt;clear hlt
   go_enter func174,ntmps174
   go_wp2_with fail
   refine (htr _).mono ?_;rintro e w1 ⟨rfl,rfl⟩
   go_wp2
   go_loop [5,6] (fun n i=>∃k:Nat,k≤t.length∧n=.int .u64 (wv (t.drop k))∧i=.int .i64 ((k:Int)-1)) (fun _ i=>(intOf i+1).toNat)
   case atStart=>exact ⟨t.length,aj _,by rw[List.drop_of_length_le (aj _)];rfl,rfl⟩
   case round=>
    obtain ⟨k,hk,rfl,rfl⟩:=hrel;rcases Nat.eq_zero_or_pos k with h0 | h0
    · subst h0;have e0:t.drop 0=t:=List.drop_zero;rw[e0];clear e0;have HM:=HLT.out
      by_cases hs:wv t≤9223372036854775807
      · have HS:=hid (kM (b:=neg) hs);clear HLT;generalize hn:wv t=n at *;clear hn;cases neg
        · have HE:=hid (vO n)
          go_wp2
          rw[HE.out];exact bodyPost_ret (v:=cV n) (by simp[results,results174,go_sem,cV]) rfl ⟨_,rfl,cw _ HS.out,(am _ _).alloc (aj _) _⟩
        · have HE:=hid (xz n)
          go_wp2
          rw[HE.out];exact bodyPost_ret (v:=cV (-n)) (by simp[results,results174,go_sem,cV]) rfl ⟨_,rfl,cw _ HS.out,(am _ _).alloc (aj _) _⟩
      · have hbig:Big t:=⟨HN.out,by unfold aV;omega,by omega⟩
        have hpos:0<cap:=by
         have h1:=HW.out.le;rcases Nat.eq_zero_or_pos cap with h | h
         · have:t=[]:=List.length_eq_zero_iff.1 (by omega);subst this;exact absurd (aM _) hs
         · exact h
        have had:=HW.out.ad hpos;subst had;have HBg:=hid hbig;clear hbig HLT;generalize hn:wv t=n at *;have HE:=hid hn;clear hn
        go_wp2
        have hbl:Below w.heap.size w (w.alloc (.cells #[.int .i64 0,.bool neg,.slice (some ⟨g,off,none⟩) t.length cap] 73)):=(am _ _).alloc (aj _) _
        exact bodyPost_ret (v:=iA neg (some ⟨g,off,none⟩) t.length cap) (by simp[results,results174,go_sem,iA]) rfl
         ⟨_,rfl,.inr ⟨neg,g,off,cap,t,rfl,HW.out.far hbl,HBg.out,by rw[HE.out]⟩,hbl⟩
    · obtain ⟨h3,h4,h5⟩:=vM HN.out.1 h2 h0 hk;have hca:=HW.out.at_ (k-1) (by omega);have hg:=HW.out.lt (by have:=HW.out.le;omega);have had:=HW.out.ad (by have:=HW.out.le;omega);subst had;have HD:=hid h5;clear h5;generalize t.getD (k-1) 0=x at *;generalize hn:wv (t.drop k)=n at *;clear hn;have hor:=jY n x h3 h4;have hp:(0:Int)≤(k:Int)-1:=by omega
      have hi2:((k:Int)-1).toNat=k-1:=by omega
      have hi3:(k:Int)-1<(t.length:Int):=by omega
      go_wp2
      go_round
      case rel=>exact ⟨k-1,by omega,by rw[HD.out];congr 1,by congr 1;omega⟩
      case measure=>simp[intOf];omega
 · have hbig:Big t:=⟨HN.out,xx HN.out (by omega),by omega⟩
   have had:=HW.out.ad (by have:=HW.out.le;omega);subst had;have HBg:=hid hbig;clear hbig
   go_enter func174,ntmps174
   go_wp2_with fail
   refine (htr _).mono ?_;rintro e w1 ⟨rfl,rfl⟩
   go_wp2
   have hbl:Below w.heap.size w (w.alloc (.cells #[.int .i64 0,.bool neg,.slice (some ⟨g,off,none⟩) t.length cap] 73)):=(am _ _).alloc (aj _) _
   exact bodyPost_ret (v:=iA neg (some ⟨g,off,none⟩) t.length cap) (by simp[results,results174,go_sem,iA]) rfl
    ⟨_,rfl,.inr ⟨neg,g,off,cap,t,rfl,HW.out.far hbl,HBg.out,rfl⟩,hbl⟩
theorem xA (l:List Nat) (i x:Nat):(bT l).toArray.setIfInBounds i (.int .u32 (x:Int))=(bT (l.set i x)).toArray:=by
 simp[bT,List.map_set]
theorem lP:(prog.info? 207).map (fun i=>(i.zero,i.size,i.bytes))=some (some (.int .u32 0),1,4):=by kernel_rfl
theorem xB (n:Nat):madeCells (Value.cells (.int .u32 0)) (n*1)=(bT (List.replicate n 0)).toArray:=by
 apply Array.ext
 · simp[madeCells,bT]
 · intro i h1 h2
   simp[madeCells,bT,Value.cells,Nat.mod_one]
theorem eM (n:Nat) (hn:n≤1000000000) (z:Int) (hz:z=n) (W:World):
    (Instr.makeSlice 71 (.int .i64 z) (.int .i64 z)).run prog W=.ok (.slice (some ⟨W.heap.size,0,none⟩) n n) (W.alloc (.cells (bT (List.replicate n 0)).toArray 207)):=by
 subst hz;obtain ⟨i0,hi,hz0,hz1,hz2⟩:=info_parts lP;have hr:=run_make (P:=prog) W 71 207 i0 _ underlying71 hi hz0 .i64 .i64 n n (by omega) (by omega) (by rw[hz2];omega) (by omega);rw[hz1,Int.toNat_natCast,xB] at hr;exact hr
def WB (w:World) (g:Nat) (l:List Nat):Prop:=w.heap[g]? =some (.cells (bT l).toArray 207 (0,0))
theorem WB.set {w:World} {g:Nat} {l:List Nat} (h:WB w g l) (i x:Nat):WB (w.setCell ⟨g,i,none⟩ (.int .u32 (x:Int))) g (l.set i x):=by
 unfold WB;rw[←xA];exact heap_set h i _
theorem WB.cell {w:World} {g:Nat} {l:List Nat} (h:WB w g l) (i:Nat) (hi:i<l.length):w.cell? ⟨g,i,none⟩=some (.int .u32 ((l.getD i 0:Nat):Int)):=by
 rw[aa h i];simpa using lN l i hi
theorem WB.fz {w:World} {g:Nat} {l:List Nat} (h:WB w g l) (i:Nat):w.frozen? ⟨g,i,none⟩=false:=aK h i
theorem WB.new (w:World) (l:List Nat):WB (w.alloc (.cells (bT l).toArray 207)) w.heap.size l:=aq w _
theorem WB.ws {w:World} {g:Nat} {l:List Nat} (h:WB w g l) (hl:Ws l) (n:Nat) (hn:n=l.length) (hm:n≤1000000000):WV w (.slice (some ⟨g,0,none⟩) n n) l:=by
 subst hn;exact ⟨_,g,0,_,rfl,aj _,by omega,fun _=>rfl,(fun h=>by cases h),fun _=>⟨_,_,h⟩,fun i hi=>by rw[Nat.zero_add];exact h.cell i hi,hl⟩
theorem WS.keep {w w':World} {ao:Option Addr} {g off cap:Nat} {l:List Nat} (h:WS w ao g off cap l) (hb:Below w.heap.size w w') {i:Nat} (hi:i<l.length):w'.cell? ⟨g,off+i,none⟩=some (.int .u32 ((l.getD i 0:Nat):Int)):=
 (h.far hb).at_ i hi
theorem cW {l:List Nat} {i:Nat} (h:Ws l):((l.getD i 0:Nat):Int)≤4294967295:=by have:=h.getD i;rw[bj] at this;omega
theorem jq (t:Nat) (z:Int) (hz:z=t):z / 4294967296=((t / BB:Nat):Int):=by rw[bj];omega
theorem gz (t:Nat) (z:Int) (hz:z=t):z % 4294967296=((t % BB:Nat):Int):=by rw[bj];omega
theorem jc {l:List Nat} {k:Nat} (h:¬k<l.length):l.getD k 0=0:=by rw[aA,List.getElem?_eq_none (by omega)];rfl
def o9 (x y la lb:Nat) (w:World) (e:Ending) (w':World):Prop:=∃v l,e=.returned v∧WV w' v l∧wv l=x+y∧l.length≤max la lb+1∧Below w.heap.size w w'
theorem qS (ao:Option Addr) (g off cap:Nat) (a:List Nat) (bo:Option Addr) (g' off' cap':Nat) (b:List Nat) (w:World) (ha:WS w ao g off cap a) (hb:WS w bo g' off' cap' b) (hla:a.length≤1000000) (hab:b.length≤a.length):
    Calls prog 215 #[.slice ao a.length cap,.slice bo b.length cap'] w (o9 (wv a) (wv b) a.length b.length w):=by
 have hal:=ha.le;have ham:=ha.most;have hbl:=hb.le;have hbm:=hb.most;have HA:=hid ha;have HB:=hid hb;clear ha hb;have hmk:=eM (a.length+1) (by omega) ((a.length:Int)+1) (by omega);have h1':¬(a.length:Int)<(b.length:Int):=by omega
 have hst:=WB.new w (List.replicate (a.length+1) 0);have hbel:Below w.heap.size w (w.alloc (.cells (bT (List.replicate (a.length+1) 0)).toArray 207)):=(am _ _).alloc (aj _) _;have HST:=hid hst;have HBE:=hid hbel;clear hst hbel
 go_enter func215,ntmps215
 go_wp2
 go_loopw [6,22] (fun c i wr=>∃(k cc:Nat) (l:List Nat),k≤a.length∧i=.int .i64 k∧c=.int .u64 cc∧AddR a b l k cc∧WB wr w.heap.size l∧Below w.heap.size w wr) (fun _ i _=>a.length-(intOf i).toNat)
 case atStart=>exact ⟨0,0,_,aM _,rfl,rfl,AddR.start a b,HST.out,HBE.out⟩
 case round=>
  obtain ⟨k,cc,l,hk,rfl,rfl,hadd,hwb,hbel⟩:=hrel;have HR:=hid hadd;have HW:=hid hwb;have HBl:=hid hbel;have hc1:(cc:Int)≤1:=by have:=hadd.c1;omega
  have hc0:(0:Int)≤cc:=by omega
  have hll:=hadd.len;clear hadd hwb hbel HST HBE;have hcw:=HW.out.cell k (by omega);have hfw:=HW.out.fz k;have hsize:=HBl.out.size
  by_cases hlt:k<a.length
  · have had:=HA.out.ad (by omega);subst had;have hca:=HA.out.keep HBl.out hlt;have hx:=cW (i:=k) HA.out.ws;have hx0:(0:Int)≤((a.getD k 0:Nat):Int):=by omega
    have HS:=hid (fun t ht=>HR.out.step HA.out.ws HB.out.ws hlt t ht)
    by_cases hlb:k<b.length
    · have hbd:=HB.out.ad (by omega);subst hbd;have hcb:=HB.out.keep HBl.out hlb;have hy:=cW (i:=k) HB.out.ws;have hy0:(0:Int)≤((b.getD k 0:Nat):Int):=by omega
      have hllb:(k:Int)<(b.length:Int):=by omega
      generalize a.getD k 0=x at *;generalize b.getD k 0=y at *;generalize l.getD k 0=z at *
      go_wp2
      rw[jq (x+cc+y) _ (by omega),gz (x+cc+y) _ (by omega)];refine ⟨⟨k+1,(x+cc+y) / BB,l.set k ((x+cc+y) % BB),by omega,by go_num,rfl,HS.out _ rfl,HW.out.set k _,HBl.out.setCell (aj _) _⟩,?_⟩
      simp[intOf];omega
    · have hllb:¬(k:Int)<(b.length:Int):=by omega
      rw[jc hlb] at HS;generalize a.getD k 0=x at *;generalize l.getD k 0=z at *
      go_wp2
      rw[jq (x+cc) _ (by omega),gz (x+cc) _ (by omega)];refine ⟨⟨k+1,(x+cc) / BB,l.set k ((x+cc) % BB),by omega,by go_num,rfl,HS.out _ rfl,HW.out.set k _,HBl.out.setCell (aj _) _⟩,?_⟩
      simp[intOf];omega
  · obtain rfl:k=a.length:=by omega
    obtain ⟨d1,d2,d3⟩:=HR.out.done (by omega);have D1:=hid d1;have D2:=hid d2;have D3:=hid d3;clear d1 d2 d3
    go_wp2
    go_ret
    exact ⟨_,_,rfl,(HW.out.set a.length cc).ws D2.out _ (by have:=D3.out;omega) (by omega),D1.out,by rw[D3.out];omega,HBl.out.setCell (aj _) _⟩
theorem qT (ao:Option Addr) (g off cap:Nat) (a:List Nat) (bo:Option Addr) (g' off' cap':Nat) (b:List Nat) (w:World) (ha:WS w ao g off cap a) (hb:WS w bo g' off' cap' b) (hlb':b.length≤1000000) (hab:a.length<b.length):
    Calls prog 215 #[.slice ao a.length cap,.slice bo b.length cap'] w (o9 (wv a) (wv b) a.length b.length w):=by
 have hal:=ha.le;have ham:=ha.most;have hbl:=hb.le;have hbm:=hb.most;have HA:=hid ha;have HB:=hid hb;clear ha hb;have hmk:=eM (b.length+1) (by omega) ((b.length:Int)+1) (by omega);have h1':(a.length:Int)<(b.length:Int):=by omega
 have hst:=WB.new w (List.replicate (b.length+1) 0);have hbel:Below w.heap.size w (w.alloc (.cells (bT (List.replicate (b.length+1) 0)).toArray 207)):=(am _ _).alloc (aj _) _;have HST:=hid hst;have HBE:=hid hbel;clear hst hbel
 go_enter func215,ntmps215
 go_wp2
 go_loopw [6,22] (fun c i wr=>∃(k cc:Nat) (l:List Nat),k≤b.length∧i=.int .i64 k∧c=.int .u64 cc∧AddR b a l k cc∧WB wr w.heap.size l∧Below w.heap.size w wr) (fun _ i _=>b.length-(intOf i).toNat)
 case atStart=>exact ⟨0,0,_,aM _,rfl,rfl,AddR.start b a,HST.out,HBE.out⟩
 case round=>
  obtain ⟨k,cc,l,hk,rfl,rfl,hadd,hwb,hbel⟩:=hrel;have HR:=hid hadd;have HW:=hid hwb;have HBl:=hid hbel;have hc1:(cc:Int)≤1:=by have:=hadd.c1;omega
  have hc0:(0:Int)≤cc:=by omega
  have hll:=hadd.len;clear hadd hwb hbel HST HBE;have hcw:=HW.out.cell k (by omega);have hfw:=HW.out.fz k;have hsize:=HBl.out.size
  by_cases hlt:k<b.length
  · have had:=HB.out.ad (by omega);subst had;have hca:=HB.out.keep HBl.out hlt;have hx:=cW (i:=k) HB.out.ws;have hx0:(0:Int)≤((b.getD k 0:Nat):Int):=by omega
    have HS:=hid (fun t ht=>HR.out.step HB.out.ws HA.out.ws hlt t ht)
    by_cases hlb:k<a.length
    · have hbd:=HA.out.ad (by omega);subst hbd;have hcb:=HA.out.keep HBl.out hlb;have hy:=cW (i:=k) HA.out.ws;have hy0:(0:Int)≤((a.getD k 0:Nat):Int):=by omega
      have hllb:(k:Int)<(a.length:Int):=by omega
      generalize b.getD k 0=x at *;generalize a.getD k 0=y at *;generalize l.getD k 0=z at *
      go_wp2
      rw[jq (x+cc+y) _ (by omega),gz (x+cc+y) _ (by omega)];refine ⟨⟨k+1,(x+cc+y) / BB,l.set k ((x+cc+y) % BB),by omega,by go_num,rfl,HS.out _ rfl,HW.out.set k _,HBl.out.setCell (aj _) _⟩,?_⟩
      simp[intOf];omega
    · have hllb:¬(k:Int)<(a.length:Int):=by omega
      rw[jc hlb] at HS;generalize b.getD k 0=x at *;generalize l.getD k 0=z at *
      go_wp2
      rw[jq (x+cc) _ (by omega),gz (x+cc) _ (by omega)];refine ⟨⟨k+1,(x+cc) / BB,l.set k ((x+cc) % BB),by omega,by go_num,rfl,HS.out _ rfl,HW.out.set k _,HBl.out.setCell (aj _) _⟩,?_⟩
      simp[intOf];omega
  · obtain rfl:k=b.length:=by omega
    obtain ⟨d1,d2,d3⟩:=HR.out.done (by omega);have D1:=hid d1;have D2:=hid d2;have D3:=hid d3;clear d1 d2 d3
    go_wp2
    go_ret
    exact ⟨_,_,rfl,(HW.out.set b.length cc).ws D2.out _ (by have:=D3.out;omega) (by omega),by rw[D1.out,Nat.add_comm],by rw[D3.out];omega,HBl.out.setCell (aj _) _⟩
theorem pg (x y:Value) (a b:List Nat) (w:World) (ha:WV w x a) (hb:WV w y b) (hla:a.length≤1000000) (hlb:b.length≤1000000):Calls prog 215 #[x,y] w (o9 (wv a) (wv b) a.length b.length w):=by
 obtain ⟨ao,g,off,cap,rfl,h1⟩:=ha;obtain ⟨bo,g',off',cap',rfl,h2⟩:=hb
 by_cases h:a.length<b.length
 · exact qT ao g off cap a bo g' off' cap' b w h1 h2 hlb h
 · exact qS ao g off cap a bo g' off' cap' b w h1 h2 hla (by omega)
theorem xC (x y c:Nat) (hx:x<4294967296) (hy:y<4294967296) (hc:c≤1):
    ∃T1 T2:Nat,IntKind.u64.wrap ((x:Int)-(c:Int))=T1∧IntKind.u64.wrap ((T1:Int)-(y:Int))=T2∧T1<18446744073709551616∧T2<18446744073709551616∧T2 / 9223372036854775808≤1∧T2 % 4294967296+y+c=x+4294967296*(T2 / 9223372036854775808):=by
 by_cases h1:x<c
 · by_cases h2:x<y+c
   · exact ⟨18446744073709551615,18446744073709551616+x-y-c,by rw[IntKind.wrap_u64];omega,by rw[IntKind.wrap_u64];omega,by omega,by omega,by omega,by omega⟩
   · omega
 · by_cases h2:x<y+c
   · exact ⟨x-c,18446744073709551616+x-y-c,by rw[IntKind.wrap_u64];omega,by rw[IntKind.wrap_u64];omega,by omega,by omega,by omega,by omega⟩
   · exact ⟨x-c,x-y-c,by rw[IntKind.wrap_u64];omega,by rw[IntKind.wrap_u64];omega,by omega,by omega,by omega,by omega⟩
theorem AT (t:Nat) (z:Int) (hz:z=t):z / 9223372036854775808=((t / 9223372036854775808:Nat):Int):=by omega
def uD (x y la:Nat) (w:World) (e:Ending) (w':World):Prop:=∃v l,e=.returned v∧WV w' v l∧wv l=x-y∧l.length≤la∧Below w.heap.size w w'
theorem qU (ao:Option Addr) (g off cap:Nat) (a:List Nat) (bo:Option Addr) (g' off' cap':Nat) (b:List Nat) (w:World) (ha:WS w ao g off cap a) (hb:WS w bo g' off' cap' b) (hla:a.length≤1000000) (hab:b.length≤a.length) (hle:wv b≤wv a):
    Calls prog 216 #[.slice ao a.length cap,.slice bo b.length cap'] w (uD (wv a) (wv b) a.length w):=by
 have hal:=ha.le;have ham:=ha.most;have hbl:=hb.le;have hbm:=hb.most;have HA:=hid ha;have HB:=hid hb;have HLE:=hid hle;clear ha hb hle;have hmk:=eM a.length (by omega) (a.length:Int) rfl;have hst:=WB.new w (List.replicate a.length 0);have hbel:Below w.heap.size w (w.alloc (.cells (bT (List.replicate a.length 0)).toArray 207)):=(am _ _).alloc (aj _) _;have HST:=hid hst;have HBE:=hid hbel;clear hst hbel
 go_enter func216,ntmps216
 go_wp2
 go_loopw [6,14] (fun c i wr=>∃(k cc:Nat) (l:List Nat),k≤a.length∧i=.int .i64 k∧c=.int .u64 cc∧SubR a b l k cc∧WB wr w.heap.size l∧Below w.heap.size w wr) (fun _ i _=>a.length-(intOf i).toNat)
 case atStart=>exact ⟨0,0,_,aM _,rfl,rfl,SubR.start a b,HST.out,HBE.out⟩
 case round=>
  obtain ⟨k,cc,l,hk,rfl,rfl,hsub,hwb,hbel⟩:=hrel;have HR:=hid hsub;have HW:=hid hwb;have HBl:=hid hbel;have hc1:=hsub.c1;have hc0:(0:Int)≤cc:=by omega
  have hll:=hsub.len;clear hsub hwb hbel HST HBE
  by_cases hlt:k<a.length
  · have hcw:=HW.out.cell k (by omega);have hfw:=HW.out.fz k;have hsize:=HBl.out.size;have had:=HA.out.ad (by omega);subst had;have hca:=HA.out.keep HBl.out hlt;have hx:=cW (i:=k) HA.out.ws;have hy:=cW (i:=k) HB.out.ws;have hx0:(0:Int)≤((a.getD k 0:Nat):Int):=by omega
    have HS:=hid (fun r c' hr hc he=>HR.out.step hlt r c' hr hc he);obtain ⟨T1,T2,w1,w2,t1,t2,t3,t4⟩:=xC (a.getD k 0) (b.getD k 0) cc (by omega) (by omega) hc1;have HT:=hid t4;have HT3:=hid t3;clear t3 t4
    by_cases hlb:k<b.length
    · have hbd:=HB.out.ad (by omega);subst hbd;have hcb:=HB.out.keep HBl.out hlb;have hy0:(0:Int)≤((b.getD k 0:Nat):Int):=by omega
      have hllb:(k:Int)<(b.length:Int):=by omega
      generalize a.getD k 0=x at *;generalize b.getD k 0=y at *;generalize l.getD k 0=z at *
      go_wp2
      rw[AT T2 _ rfl,gz T2 _ rfl];refine ⟨⟨k+1,T2 / 9223372036854775808,l.set k (T2 % BB),by omega,by go_num,rfl,HS.out _ _ (Nat.mod_lt _ bF) HT3.out (by have:=HT.out;rw[bj];exact this),HW.out.set k _,HBl.out.setCell (aj _) _⟩,?_⟩
      simp[intOf];omega
    · have hllb:¬(k:Int)<(b.length:Int):=by omega
      rw[jc hlb] at HS HT w2
      have e:T1=T2:=by
       rw[IntKind.wrap_u64] at w2
       omega
      subst e;clear w2 hy;generalize a.getD k 0=x at *;generalize l.getD k 0=z at *
      go_wp2
      rw[AT T1 _ rfl,gz T1 _ rfl];refine ⟨⟨k+1,T1 / 9223372036854775808,l.set k (T1 % BB),by omega,by go_num,rfl,HS.out _ _ (Nat.mod_lt _ bF) HT3.out (by have:=HT.out;rw[bj];exact this),HW.out.set k _,HBl.out.setCell (aj _) _⟩,?_⟩
      simp[intOf];omega
  · obtain rfl:k=a.length:=by omega
    have D1:=hid (HR.out.done hab HLE.out)
    go_wp2
    go_ret
    exact ⟨_,_,rfl,HW.out.ws HR.out.ws _ (by omega) (by omega),D1.out.1,by omega,HBl.out⟩
theorem jZ (x y:Value) (a b:List Nat) (w:World) (ha:WV w x a) (hb:WV w y b) (hla:a.length≤1000000) (hab:b.length≤a.length) (hle:wv b≤wv a):Calls prog 216 #[x,y] w (uD (wv a) (wv b) a.length w):=by
 obtain ⟨ao,g,off,cap,rfl,h1⟩:=ha;obtain ⟨bo,g',off',cap',rfl,h2⟩:=hb;exact qU ao g off cap a bo g' off' cap' b w h1 h2 hla hab hle
def uE (x y la:Nat) (w:World) (e:Ending) (w':World):Prop:=∃v l,e=.returned v∧WV w' v l∧wv l=x*y∧l.length≤la∧Below w.heap.size w w'
theorem qV (ao:Option Addr) (g off cap:Nat) (a:List Nat) (bo:Option Addr) (g' off' cap':Nat) (b:List Nat) (w:World) (ha:WS w ao g off cap a) (hb:WS w bo g' off' cap' b) (hla:a.length≤1000000) (hlb:b.length≤1000000):
    Calls prog 184 #[.slice ao a.length cap,.slice bo b.length cap'] w (uE (wv a) (wv b) (a.length+b.length) w):=by
 have hal:=ha.le;have ham:=ha.most;have hbl:=hb.le;have hbm:=hb.most;have HA:=hid ha;have HB:=hid hb;clear ha hb;have hmk:=eM (a.length+b.length) (by omega) ((a.length:Int)+(b.length:Int)) (by omega);have hst:=WB.new w (List.replicate (a.length+b.length) 0);have hbel:Below w.heap.size w (w.alloc (.cells (bT (List.replicate (a.length+b.length) 0)).toArray 207)):=(am _ _).alloc (aj _) _;have HST:=hid hst;have HBE:=hid hbel;clear hst hbel
 go_enter func184,ntmps184
 go_wp2
 go_loopw [20] (fun i wr=>∃(k:Nat) (l:List Nat),k≤a.length∧i=.int .i64 k∧MulR a b l k 0 0∧WB wr w.heap.size l∧Below w.heap.size w wr) (fun i _=>a.length-(intOf i).toNat)
 case atStart=>exact ⟨0,_,aM _,rfl,MulR.start a b,HST.out,HBE.out⟩
 case round=>
  obtain ⟨k,l,hk,rfl,hmul,hwb,hbel⟩:=hrel;have HR:=hid hmul;have HW:=hid hwb;have HBl:=hid hbel;have hll:=hmul.len;clear hmul hwb hbel HST HBE
  by_cases hlt:k<a.length
  · have had:=HA.out.ad (by omega);subst had;have hca:=HA.out.keep HBl.out hlt;have hx:=cW (i:=k) HA.out.ws;have hx0:(0:Int)≤((a.getD k 0:Nat):Int):=by omega
    obtain ⟨x,hxe⟩:∃x,a.getD k 0=x:=⟨_,rfl⟩
    rw[hxe] at hca hx hx0;have HX:=hid hxe;clear hxe;obtain ⟨wo,rfl⟩:∃wo:World,wo=wr:=⟨_,rfl⟩
    go_wp2
    go_loopw [8,27] (fun c j wr=>∃(m cc:Nat) (l:List Nat),m≤b.length∧j=.int .i64 m∧c=.int .u64 cc∧MulR a b l k m cc∧WB wr w.heap.size l∧Below w.heap.size w wr) (fun _ j _=>b.length-(intOf j).toNat)
    case atStart=>exact ⟨0,0,l,aM _,rfl,rfl,HR.out,HW.out,HBl.out⟩
    case round=>
     obtain ⟨m,cc,l2,hm,rfl,rfl,hmul,hwb,hbel⟩:=hrel;have HR2:=hid hmul;have HW2:=hid hwb;have HBl2:=hid hbel;have hll2:=hmul.len;have hc1:cc<4294967296:=by have:=hmul.c1;rw[bj] at this;exact this
     clear hmul hwb hbel HR HW HBl hca;have hsize:=HBl2.out.size
     by_cases hlm:m<b.length
     · have hbd:=HB.out.ad (by omega);subst hbd;have hcb:=HB.out.keep HBl2.out hlm;have hy:=cW (i:=m) HB.out.ws;have hy0:(0:Int)≤((b.getD m 0:Nat):Int):=by omega
       have hz:=cW (i:=k+m) HR2.out.ws;have hz0:(0:Int)≤((l2.getD (k+m) 0:Nat):Int):=by omega
       have hcw:=HW2.out.cell (k+m) (by omega);have hfw:=HW2.out.fz (k+m);have hi1:(k:Int)+(m:Int)<(a.length:Int)+(b.length:Int):=by omega
       have hi2:((k:Int)+(m:Int)).toNat=k+m:=by omega
       have hi0:(0:Int)≤(k:Int)+(m:Int):=by omega
       have HS:=hid (fun t ht=>HR2.out.step HA.out.ws HB.out.ws hlt hlm t ht);have HX2:=HX.out;have HS2:Hid (∀t,t=x*b.getD m 0+l2.getD (k+m) 0+cc→MulR a b (l2.set (k+m) (t % BB)) k (m+1) (t / BB)∧t<BB*BB):=hid (fun t ht=>HS.out t (by rw[HX2];exact ht));clear HS HX2;generalize b.getD m 0=y at *;generalize l2.getD (k+m) 0=z at *;have hP:=(HS2.out _ rfl).2;rw[bj] at hP;have hm1:IntKind.u64.wrap ((x:Int)*(y:Int))=((x*y:Nat):Int):=by rw[←Int.natCast_mul,IntKind.wrap_u64];omega
       generalize hPe:x*y=P at *;clear hPe;have hP0:(0:Int)≤(P:Int):=by omega
       have hP1:(P:Int)+(z:Int)+(cc:Int)≤18446744073709551615:=by omega
       have hc0:(0:Int)≤(cc:Int):=by omega
       clear hP
       go_wp2
       rw[jq (P+z+cc) _ (by omega),gz (P+z+cc) _ (by omega)];refine ⟨⟨m+1,(P+z+cc) / BB,l2.set (k+m) ((P+z+cc) % BB),by omega,by go_num,rfl,(HS2.out _ rfl).1,HW2.out.set _ _,HBl2.out.setCell (aj _) _⟩,?_⟩
       simp[intOf];omega
     · obtain rfl:m=b.length:=by omega
       have HN:=hid (HR2.out.next hlt);have hcw:=HW2.out.cell (k+b.length) (by omega);have hfw:=HW2.out.fz (k+b.length);have hi1:(k:Int)+(b.length:Int)<(a.length:Int)+(b.length:Int):=by omega
       have hi2:((k:Int)+(b.length:Int)).toNat=k+b.length:=by omega
       have hi0:(0:Int)≤(k:Int)+(b.length:Int):=by omega
       have hc0:(0:Int)≤(cc:Int):=by omega
       generalize l2.getD (k+b.length) 0=z at *
       go_wp2
       refine ⟨⟨k+1,l2.set (k+b.length) cc,by omega,by go_num,HN.out,HW2.out.set _ _,HBl2.out.setCell (aj _) _⟩,?_⟩
       simp[intOf];omega
  · obtain rfl:k=a.length:=by omega
    have D1:=hid HR.out.done
    go_wp2
    go_ret
    exact ⟨_,_,rfl,HW.out.ws HR.out.ws _ (by omega) (by omega),D1.out,by omega,HBl.out⟩
theorem j1 (x y:Value) (a b:List Nat) (w:World) (ha:WV w x a) (hb:WV w y b) (hla:a.length≤1000000) (hlb:b.length≤1000000):Calls prog 184 #[x,y] w (uE (wv a) (wv b) (a.length+b.length) w):=by
 obtain ⟨ao,g,off,cap,rfl,h1⟩:=ha;obtain ⟨bo,g',off',cap',rfl,h2⟩:=hb;exact qV ao g off cap a bo g' off' cap' b w h1 h2 hla hlb
def Fit (z:Int):Prop:=z.natAbs<BB ^ 1000
theorem gR {l:List Nat} {z:Int} (hn:em l) (hv:wv l=z.natAbs) (hz:Fit z):l.length≤1000:=by
 by_cases h0:l=[]
 · subst h0;simp
 · have h1:=jS l hn h0;unfold Fit at hz;have h2:BB ^ (l.length-1)<BB ^ 1000:=by omega
   have:=(Nat.pow_lt_pow_iff_right (by rw[bj];omega:1<BB)).1 h2
   omega
theorem ey (w:World) (o o' o2:Obj):(((w.alloc o).alloc o').alloc o2).heap[w.heap.size+2]? =some o2:=by
 have:=aq ((w.alloc o).alloc o') o2
 simpa using this
theorem eT (w:World) (o o' o2:Obj):Below w.heap.size w (((w.alloc o).alloc o').alloc o2):=(((am w.heap.size w).alloc (aj _) _).alloc (by simp) _).alloc (by simp;omega) _
theorem dW (x y:Value) (a b:List Nat) (w:World) (ha:WV w x a) (hb:WV w y b) (na:em a) (nb:em b):Calls prog 182 #[x,y] w fun e w'=>e=.returned (.int .i64 (eS (wv a) (wv b)))∧Below w.heap.size w w':=by
 obtain ⟨ao,g,off,cap,rfl,h1⟩:=ha;obtain ⟨bo,g',off',cap',rfl,h2⟩:=hb;exact (eY ao g off cap a bo g' off' cap' b w h1 h2 na nb).mono fun _ _ ⟨he,n,hw⟩=>⟨he,by rw[hw];exact aW (am _ _) n⟩
theorem uF {a b:List Nat} (na:em a) (nb:em b) (h:wv b≤wv a):b.length≤a.length:=by
 apply Decidable.byContradiction;intro hl;have:=eK a b na nb (by omega)
 omega
theorem jd:
    (∀{za zb:Int} {b1 b2:Bool} {ad1 ad2:Addr} {n1 c1 n2 c2:Nat} (w:World) (_:IV w (.agg #[.int .i64 0,.bool b1,.slice (some ad1) n1 c1]) za) (_:IV w (.agg #[.int .i64 0,.bool b2,.slice (some ad2) n2 c2]) zb) (_:Fit za) (_:Fit zb),Calls prog 179 #[.agg #[.int .i64 0,.bool b1,.slice (some ad1) n1 c1],.agg #[.int .i64 0,.bool b2,.slice (some ad2) n2 c2]] w (cD (za+zb) w))∧
    (∀{za zb:Int} {b1:Bool} {ad1:Addr} {n1 c1:Nat} (w:World) (_:IV w (.agg #[.int .i64 0,.bool b1,.slice (some ad1) n1 c1]) za) (_:IV w (.agg #[.int .i64 zb,.bool false,.slice none 0 0]) zb) (_:Fit za) (_:Fit zb),Calls prog 179 #[.agg #[.int .i64 0,.bool b1,.slice (some ad1) n1 c1],.agg #[.int .i64 zb,.bool false,.slice none 0 0]] w (cD (za+zb) w))∧
    (∀{za zb:Int} {b2:Bool} {ad2:Addr} {n2 c2:Nat} (w:World) (_:IV w (.agg #[.int .i64 za,.bool false,.slice none 0 0]) za) (_:IV w (.agg #[.int .i64 0,.bool b2,.slice (some ad2) n2 c2]) zb) (_:Fit za) (_:Fit zb),Calls prog 179 #[.agg #[.int .i64 za,.bool false,.slice none 0 0],.agg #[.int .i64 0,.bool b2,.slice (some ad2) n2 c2]] w (cD (za+zb) w))∧
    (∀{za zb:Int} (w:World) (_:aV za) (_:aV zb) (_:za+zb= -9223372036854775808) (_:IV w (.agg #[.int .i64 za,.bool false,.slice none 0 0]) za) (_:IV w (.agg #[.int .i64 zb,.bool false,.slice none 0 0]) zb) (_:Fit za) (_:Fit zb),Calls prog 179 #[.agg #[.int .i64 za,.bool false,.slice none 0 0],.agg #[.int .i64 zb,.bool false,.slice none 0 0]] w (cD (za+zb) w))∧
    (∀{za zb:Int} (w:World) (_:aV za) (_:aV zb) (_:9223372036854775807<za+zb) (_:IV w (.agg #[.int .i64 za,.bool false,.slice none 0 0]) za) (_:IV w (.agg #[.int .i64 zb,.bool false,.slice none 0 0]) zb) (_:Fit za) (_:Fit zb),Calls prog 179 #[.agg #[.int .i64 za,.bool false,.slice none 0 0],.agg #[.int .i64 zb,.bool false,.slice none 0 0]] w (cD (za+zb) w))∧
    (∀{za zb:Int} (w:World) (_:aV za) (_:aV zb) (_:za+zb < -9223372036854775808) (_:IV w (.agg #[.int .i64 za,.bool false,.slice none 0 0]) za) (_:IV w (.agg #[.int .i64 zb,.bool false,.slice none 0 0]) zb) (_:Fit za) (_:Fit zb),Calls prog 179 #[.agg #[.int .i64 za,.bool false,.slice none 0 0],.agg #[.int .i64 zb,.bool false,.slice none 0 0]] w (cD (za+zb) w)):=by
 refine ⟨?g1,?g2,?g3,?g4,?g5,?g6⟩
 focus
  intro za zb b1 b2 ad1 ad2 n1 c1 n2 c2 w ha hb fa fb
 rotate_left
 focus
  intro za zb b1 ad1 n1 c1 w ha hb fa fb
 rotate_left
 focus
  intro za zb b2 ad2 n2 c2 w ha hb fa fb
 rotate_left
 focus
  intro za zb w hza hzb hs ha hb fa fb
 rotate_left
 focus
  intro za zb w hza hzb hs ha hb fa fb
 rotate_left
 focus
  intro za zb w hza hzb hs ha hb fa fb
 rotate_left
 all_goals
  have kq:=cB;have kq0:=bJ;have hpa:=fun (W':World) (hB:Below w.heap.size w W')=>bd _ _ W' (ha.far hB)
  have hpb:=fun (W':World) (hB:Below w.heap.size w W')=>bd _ _ W' (hb.far hB)
  clear ha hb
 rotate_left
 rotate_left
 rotate_left
 focus
  obtain ⟨q1,q2⟩:=hza;obtain ⟨q3,q4⟩:=hzb;have hpos:¬0<zb:=by omega
  obtain ⟨S,hS⟩:∃S,IntKind.i64.wrap (za+zb)=S:=⟨_,rfl⟩
  have hge:¬za<S:=by rw[←hS,IntKind.wrap_i64];omega
  have hbq:(S != -9223372036854775808)=false:=by rw[←hS,IntKind.wrap_i64];simp;omega
  have HS:=hid hs;clear hs
 rotate_left
 focus
  obtain ⟨q1,q2⟩:=hza;obtain ⟨q3,q4⟩:=hzb;have hpos:0<zb:=by omega
  obtain ⟨S,hS⟩:∃S,IntKind.i64.wrap (za+zb)=S:=⟨_,rfl⟩
  have hge:¬za<S:=by rw[←hS,IntKind.wrap_i64];omega
 rotate_left
 focus
  obtain ⟨q1,q2⟩:=hza;obtain ⟨q3,q4⟩:=hzb;have hpos:¬0<zb:=by omega
  obtain ⟨S,hS⟩:∃S,IntKind.i64.wrap (za+zb)=S:=⟨_,rfl⟩
  have hge:za<S:=by rw[←hS,IntKind.wrap_i64];omega
 rotate_left
 all_goals
  go_enter func179,ntmps179
  go_wp2_with fail
  refine (hpa _ (eT w _ _ _)).mono ?_;rintro e w1 ⟨va',la,rfl,hva,hna,hla,-,hb1⟩;have hlla:=gR hna hla fa;obtain ⟨hc1,hf1⟩:=cM hb1;have hz1:w.heap.size+2<w1.heap.size:=by have:=hb1.size;simp at this;omega
  have HB1:=hid ((eT w _ _ _).trans (hb1.mono (by simp;omega)));have HR1:=hid ((hb1.block (w.heap.size+2) (by simp)).trans (ey w _ _ _));have HVA:=hid hva;have HNA:=hid hna;have HLA:=hid hla;clear hb1 hva hna hla hpa
  go_wp2_with fail
  refine (hpb _ HB1.out).mono ?_;rintro e w2 ⟨vb',lb,rfl,hvb,hnb,hlb,-,hb2⟩;have hllb:=gR hnb hlb fb;obtain ⟨hc2,hf2⟩:=cM hb2;have hz2:w.heap.size+2<w2.heap.size:=by have:=hb2.size;omega
  have HB2:=hid (HB1.out.trans (hb2.mono HB1.out.size));have HR2:=hid ((hb2.block (w.heap.size+2) hz1).trans HR1.out);have HVA2:=hid (HVA.out.far hb2);have HVB:=hid hvb;have HNB:=hid hnb;have HLB:=hid hlb;clear hb2 hvb hnb hlb hpb HB1 HR1 HVA
  by_cases hsg:decide (za<0)=decide (zb<0)
  · have hsb:(decide (za<0)==decide (zb<0))=true:=by simpa using hsg
    have HSG:=hid hsg;clear hsg;have hadd:=pg va' vb' la lb w2 HVA2.out HVB.out (by omega) (by omega)
    go_wp2_with fail
    refine hadd.mono ?_;rintro e w3 ⟨v3,l3,rfl,hv3,hw3,hl3,hb3⟩;have hfp:=cr (decide (za<0)) v3 l3 w3 hv3 (by omega);have HW3:=hid hw3;obtain ⟨hc3,hf3⟩:=cM hb3;have hz3:w.heap.size+2<w3.heap.size:=by have:=hb3.size;omega
    have HB3:=hid (HB2.out.trans (hb3.mono HB2.out.size));have HR3:=hid ((hb3.block (w.heap.size+2) hz2).trans HR2.out);clear hb3 hv3 hw3 hadd
    go_wp2_with fail
    refine hfp.mono ?_;rintro e w4 ⟨v4,rfl,hv4,hb4⟩;have HV4:=hid hv4;obtain ⟨s4,b4,a4,n4,c4,rfl⟩:=aY hv4;obtain ⟨hc4,hf4⟩:=cM hb4;have HB4:=hid (HB3.out.trans (hb4.mono HB3.out.size));have HR4:=hid ((hb4.block (w.heap.size+2) hz3).trans HR3.out)
    have HE:Hid (sgn (decide (za<0)) (wv l3)=za+zb):=hid (by
     have h1:=HSG.out;have h2:=HLA.out;have h3:=HLB.out;rw[HW3.out,h2,h3]
     by_cases hz:za<0
     · rw[aH hz] at h1 ⊢;have:zb<0:=by simpa using h1.symm
       unfold sgn;simp;omega
     · rw[aD hz] at h1 ⊢;have:¬zb<0:=by simpa using h1.symm
       unfold sgn;simp;omega)
    clear hb4 hv4 hfp
    go_wp2
    rw[←HE.out];exact dH results179 rfl rfl HR4.out HV4.out HB4.out (by omega)
  · have hsb:(decide (za<0)==decide (zb<0))=false:=by simpa using hsg
    have HSG:=hid hsg;clear hsg;have hcmp:=dW _ _ la lb w2 HVA2.out HVB.out HNA.out HNB.out
    go_wp2_with fail
    refine hcmp.mono ?_;rintro e w3 ⟨he,hb3⟩;obtain ⟨hc3,hf3⟩:=cM hb3;have hz3:w.heap.size+2<w3.heap.size:=by have:=hb3.size;omega
    have HB3:=hid (HB2.out.trans (hb3.mono HB2.out.size));have HR3:=hid ((hb3.block (w.heap.size+2) hz2).trans HR2.out);have HVA3:=hid (HVA2.out.far hb3);have HVB3:=hid (HVB.out.far hb3);clear hb3 hcmp HVA2 HVB;rcases Nat.lt_trichotomy (wv la) (wv lb) with hlt | hlt | hlt
    · rw[i8 hlt] at he;subst he;have hsub:=jZ vb' va' lb la w3 HVB3.out HVA3.out (by omega) (uF HNB.out HNA.out (by omega)) (by omega);have hne:True:=trivial
      go_wp2_with fail
      refine hsub.mono ?_;rintro e w4 ⟨v4,l4,rfl,hv4,hw4,hl4,hb4⟩;have hfp:=cr (decide (zb<0)) v4 l4 w4 hv4 (by omega);have HW4:=hid hw4;obtain ⟨hc4,hf4⟩:=cM hb4;have hz4:w.heap.size+2<w4.heap.size:=by have:=hb4.size;omega
      have HB4:=hid (HB3.out.trans (hb4.mono HB3.out.size));have HR4:=hid ((hb4.block (w.heap.size+2) hz3).trans HR3.out)
      have HE:Hid (sgn (decide (zb<0)) (wv l4)=za+zb):=hid (by
       have h1:=HSG.out;have h2:=HLA.out;have h3:=HLB.out;rw[HW4.out]
       by_cases hz:za<0
       · by_cases hzz:zb<0
         · exact absurd (by rw[aH hz,aH hzz]) h1
         · simp[hzz,sgn];omega
       · by_cases hzz:zb<0
         · simp[hzz,sgn];omega
         · exact absurd (by rw[aD hz,aD hzz]) h1)
      clear hb4 hv4 hw4 hsub
      go_wp2_with fail
      refine hfp.mono ?_;rintro e w5 ⟨v5,rfl,hv5,hb5⟩;have HV5:=hid hv5;obtain ⟨s5,b5,a5,n5,c5,rfl⟩:=aY hv5;obtain ⟨hc5,hf5⟩:=cM hb5;have HB5:=hid (HB4.out.trans (hb5.mono HB4.out.size));have HR5:=hid ((hb5.block (w.heap.size+2) hz4).trans HR4.out);clear hb5 hv5 hfp
      go_wp2
      rw[←HE.out];exact dH results179 rfl rfl HR5.out HV5.out HB5.out (by omega)
    · rw[ja hlt] at he;subst he
      have HE:Hid (za+zb=0):=hid (by
       have h1:=HSG.out;have h2:=HLA.out;have h3:=HLB.out
       by_cases hz:za<0
       · by_cases hzz:zb<0
         · exact absurd (by rw[aH hz,aH hzz]) h1
         · omega
       · by_cases hzz:zb<0
         · omega
         · exact absurd (by rw[aD hz,aD hzz]) h1)
      clear hlt
      go_wp2
      rw[HE.out];exact dH results179 rfl rfl HR3.out (cw _ (by unfold aV;omega)) HB3.out (by omega)
    · rw[gQ hlt] at he;subst he;have hsub:=jZ va' vb' la lb w3 HVA3.out HVB3.out (by omega) (uF HNA.out HNB.out (by omega)) (by omega);have hne:True:=trivial
      go_wp2_with fail
      refine hsub.mono ?_;rintro e w4 ⟨v4,l4,rfl,hv4,hw4,hl4,hb4⟩;have hfp:=cr (decide (za<0)) v4 l4 w4 hv4 (by omega);have HW4:=hid hw4;obtain ⟨hc4,hf4⟩:=cM hb4;have hz4:w.heap.size+2<w4.heap.size:=by have:=hb4.size;omega
      have HB4:=hid (HB3.out.trans (hb4.mono HB3.out.size));have HR4:=hid ((hb4.block (w.heap.size+2) hz3).trans HR3.out)
      have HE:Hid (sgn (decide (za<0)) (wv l4)=za+zb):=hid (by
       have h1:=HSG.out;have h2:=HLA.out;have h3:=HLB.out;rw[HW4.out]
       by_cases hz:za<0
       · by_cases hzz:zb<0
         · exact absurd (by rw[aH hz,aH hzz]) h1
         · simp[hz,sgn];omega
       · by_cases hzz:zb<0
         · simp[hz,sgn];omega
         · exact absurd (by rw[aD hz,aD hzz]) h1)
      clear hb4 hv4 hw4 hsub
      go_wp2_with fail
      refine hfp.mono ?_;rintro e w5 ⟨v5,rfl,hv5,hb5⟩;have HV5:=hid hv5;obtain ⟨s5,b5,a5,n5,c5,rfl⟩:=aY hv5;obtain ⟨hc5,hf5⟩:=cM hb5;have HB5:=hid (HB4.out.trans (hb5.mono HB4.out.size));have HR5:=hid ((hb5.block (w.heap.size+2) hz4).trans HR4.out);clear hb5 hv5 hfp
      go_wp2
      rw[←HE.out];exact dH results179 rfl rfl HR5.out HV5.out HB5.out (by omega)
theorem ze {za zb:Int} (w:World) (hza:aV za) (hzb:aV zb) (hs:aV (za+zb)):
    Calls prog 179 #[.agg #[.int .i64 za,.bool false,.slice none 0 0],.agg #[.int .i64 zb,.bool false,.slice none 0 0]] w (cD (za+zb) w):=by
 have kq0:=bJ;have HS:=hid hs;obtain ⟨q1,q2⟩:=hza;obtain ⟨q3,q4⟩:=hzb;obtain ⟨q5,q6⟩:=hs
 have hd:(decide (za<za+zb)==decide (0<zb))=true:=by
  by_cases h:0<zb
  · rw[aH h,aH (by omega)];rfl
  · rw[aD h,aD (by omega)];rfl
 have hne:(za+zb != -9223372036854775808)=true:=by simp;omega
 go_enter func179,ntmps179
 go_wp2
 exact bodyPost_ret (v:=cV (za+zb)) (by simp[results,results179,go_sem,cV]) rfl ⟨_,rfl,cw _ HS.out,eT w _ _ _⟩
theorem uG (x y:Value) (za zb:Int) (w:World) (ha:IV w x za) (hb:IV w y zb) (fa:Fit za) (fb:Fit zb):Calls prog 179 #[x,y] w (cD (za+zb) w):=by
 rcases ha with ⟨rfl,h1⟩ | ⟨b1,g1,o1,c1,l1,rfl,h2,h3,h4⟩
 · rcases hb with ⟨rfl,k1⟩ | ⟨b2,g2,o2,c2,l2,rfl,k2,k3,k4⟩
   · by_cases hs:aV (za+zb)
     · exact ze w h1 k1 hs
     · rcases Int.lt_trichotomy (za+zb) (-9223372036854775808) with h | h | h
       · exact jd.2.2.2.2.2 w h1 k1 h (.inl ⟨rfl,h1⟩) (.inl ⟨rfl,k1⟩) fa fb
       · exact jd.2.2.2.1 w h1 k1 h (.inl ⟨rfl,h1⟩) (.inl ⟨rfl,k1⟩) fa fb
       · exact jd.2.2.2.2.1 w h1 k1 (by unfold aV at hs;omega) (.inl ⟨rfl,h1⟩) (.inl ⟨rfl,k1⟩) fa fb
   · exact jd.2.2.1 w (.inl ⟨rfl,h1⟩) (.inr ⟨b2,g2,o2,c2,l2,rfl,k2,k3,k4⟩) fa fb
 · rcases hb with ⟨rfl,k1⟩ | ⟨b2,g2,o2,c2,l2,rfl,k2,k3,k4⟩
   · exact jd.2.1 w (.inr ⟨b1,g1,o1,c1,l1,rfl,h2,h3,h4⟩) (.inl ⟨rfl,k1⟩) fa fb
   · exact jd.1 w (.inr ⟨b1,g1,o1,c1,l1,rfl,h2,h3,h4⟩) (.inr ⟨b2,g2,o2,c2,l2,rfl,k2,k3,k4⟩) fa fb
end Go.Proofs.YtpkfnnkbfphfbaaGreatDoor

/- The exact height of a term; the terms below its root. -/
import Derived.Test.YtapdbeaoakcjeaaGreatDoorEWJ
import Derived.Test.YtapdbeaoakcjeaaGreatDoorEUY
import Derived.Test.YtapdbeaoakcjeaaGreatDoorELS
import Derived.Test.YtapdbeaoakcjeaaGreatDoorEVD
import Derived.Test.YtapdbeaoakcjeaaGreatDoorEUP
import Derived.Test.YtapdbeaoakcjeaaGreatDoorEYA
import Derived.Test.YtapdbeaoakcjeaaGreatDoorEUT
set_option maxRecDepth 100000
set_option maxHeartbeats 40000000
open Go.Lib (hid)
namespace Go.Proofs.YtapdbeaoakcjeaaGreatDoor.Se
open Go.RowKit Nmx
inductive WX:Nat→Nat→List Nd→List Int→List Nat→List Int→Prop
 | nil (p:Nat):WX p 0 [] [] [] []
 | cons {p d e:Nat} {x:Nd} {ks rest:List Nd} {ss rs:List Int} {s:Int} {Ek Er:List Nat} {Sk Sr:List Int}:
     WX (p+1) d ks ss Ek Sk→NodeOk x ks ss s→WX (p+1+ks.length) e rest rs Er Sr→WX p (max (d+1) e) (x::(ks++rest)) (s::rs) ((p+1+ks.length)::(Ek++Er)) (s::(Sk++Sr))
theorem WE.ex {p d:Nat} {ts:List Nd} {ss:List Int} {E:List Nat} {S:List Int} (h:WE p d ts ss E S):∃d',d'≤d∧WX p d' ts ss E S:=by
 induction h with
 | nil=>exact ⟨0,aE _,.nil _⟩
 | cons _ hn _ ih1 ih2=>
   obtain ⟨a,ha,h1⟩:=ih1;obtain ⟨b,hb,h2⟩:=ih2;exact ⟨_,by omega,.cons h1 hn h2⟩
theorem WX.we {p d:Nat} {ts:List Nd} {ss:List Int} {E:List Nat} {S:List Int} (h:WX p d ts ss E S):WE p d ts ss E S:=by
 induction h with
 | nil=>exact .nil _ _
 | @cons p d e _ _ _ _ _ _ _ _ _ _ _ hn _ ih1 ih2=>
   obtain ⟨m,hm⟩:∃m,max (d+1) e=m+1:=⟨max (d+1) e-1,by omega⟩
   rw[hm];exact .cons (ih1.mono m (by omega)) hn (ih2.mono (m+1) (by omega))
theorem WX.shift {p d:Nat} {ts:List Nd} {ss:List Int} {E:List Nat} {S:List Int} (h:WX p d ts ss E S):∀p',∃E',WX p' d ts ss E' S:=by
 induction h with
 | nil=>intro p';exact ⟨_,.nil _⟩
 | @cons p _ _ _ ks _ _ _ _ _ _ _ _ _ hn _ ihk ihr=>
   intro p';obtain ⟨F,hF⟩:=ihk (p'+1);obtain ⟨G,hG⟩:=ihr (p'+1+ks.length);exact ⟨_,.cons hF hn hG⟩
theorem tu {i:Nat} {op:List Nat} (h:∀y∈op,i<y):bu i op=op:=by
 unfold bu
 have e:op.reverse.dropWhile (fun x=>decide (x≤i))=op.reverse:=by
  cases hr:op.reverse with
  | nil=>rfl
  | cons y l=>
    have:=h y (List.mem_reverse.1 (by rw[hr];simp));rw[List.dropWhile_cons_of_neg (by simp;omega)]
 rw[e,List.reverse_reverse]
theorem mG {i:Nat} {op:List Nat} {y:Nat} (h:y∈bu i op):y∈op:=by
 unfold bu at h;exact List.mem_reverse.1 ((List.dropWhile_sublist _).subset (List.mem_reverse.1 h))
theorem WX.high {p d:Nat} {ts:List Nd} {ss:List Int} {E:List Nat} {S:List Int} (h:WX p d ts ss E S):∀(Et op:List Nat) (best:Nat),(∀y∈bu p op,p+ts.length≤y)→(bu p op).length≤best→
    ∃op',br p (E++Et) op best=br (p+ts.length) Et op' (max best ((bu p op).length+d))∧bu (p+ts.length) op'=bu (p+ts.length) op:=by
 induction h with
 | nil=>intro Et op best _ hb;exact ⟨op,by rw[Nat.add_zero,Nat.max_eq_left hb];rfl,rfl⟩
 | @cons p d e x ks rest ss rs s Ek Er Sk Sr hk hn hr ihk ihr=>
   intro Et op best hy hb;simp only[au,aA] at hy;have e0:(p+1+ks.length)::(Ek++Er)++Et=(p+1+ks.length)::(Ek++(Er++Et)):=by simp
   rw[e0];simp only[br]
   have hy1:∀y∈bu (p+1) (bu p op++[p+1+ks.length]),p+1+ks.length≤y:=fun y h=>by
    rcases List.mem_append.1 (mG h) with h | h
    · have:=hy y h;omega
    · rw[List.mem_singleton.1 h];exact ag _
   have hl1:(bu (p+1) (bu p op++[p+1+ks.length])).length≤(bu p op).length+1:=aC (jG _ _) (by simp);obtain ⟨o1,a1,a2⟩:=ihk (Er++Et) (bu p op++[p+1+ks.length]) (max best ((bu p op).length+1)) hy1 (by omega);rw[a1]
   have hpop:bu (p+1+ks.length) o1=bu (p+1+ks.length) op:=by
    rw[a2,mr _ _ _ (ag _),dH _ _ (by omega)]
   have hsub:bu (p+1+ks.length) op=bu (p+1+ks.length) (bu p op):=(dH _ _ (by omega) _).symm;have hl2:(bu (p+1+ks.length) o1).length≤(bu p op).length:=by rw[hpop,hsub];exact jG _ _
   obtain ⟨o2,c1,c2⟩:=ihr Et o1 (max (max best ((bu p op).length+1)) ((bu (p+1) (bu p op++[p+1+ks.length])).length+d)) (fun y h=>by
    rw[hpop,hsub] at h
    have:=hy y (mG h);omega) (by omega)
   have e1:p+1+ks.length+rest.length=p+(x::(ks++rest)).length:=by simp only[au,aA];omega
   rw[c1,e1];rw[e1] at c2
   have hm:max (max (max best ((bu p op).length+1)) ((bu (p+1) (bu p op++[p+1+ks.length])).length+d)) ((bu (p+1+ks.length) o1).length+e)=max best ((bu p op).length+max (d+1) e):=by
    have g1:max ((bu p op).length+1) ((bu (p+1) (bu p op++[p+1+ks.length])).length+d)=(bu p op).length+1+d:=by
     cases hk with
     | nil=>omega
     | cons _ _ _=>
       rw[tu (i:=p+1) (op:=bu p op++[_])]
       · simp only[aA,aK];omega
       · intro y h;simp only[au,aA] at hy h;rcases List.mem_append.1 h with h | h
         · have:=hy y h;omega
         · have:=List.mem_singleton.1 h;omega
    have g2:(bu (p+1+ks.length) o1).length+e=(bu p op).length+e∨e=0:=by
     cases hr with
     | nil=>exact .inr rfl
     | cons _ _ _=>
       left
       rw[hpop,hsub,tu (i:=p+1+ks.length) (op:=bu p op)];intro y h;simp only[au] at hy;have:=hy y h;omega
    omega
   rw[hm];refine ⟨o2,rfl,?_⟩;rw[c2,←dH _ (p+1+ks.length) (by simp only[au,aA];omega) o1,hpop,dH _ _ (by simp only[au,aA];omega)]
theorem WX.hgt {d:Nat} {ts:List Nd} {ss:List Int} {E:List Nat} {S:List Int} (h:WX 0 d ts ss E S):br 0 E [] 0=d:=by
 obtain ⟨o,h1,-⟩:=h.high [] [] 0 (fun y h=>by cases mG h) (ag _);rw[List.append_nil] at h1;rw[h1];simp only[br];have:(bu 0 []).length=0:=rfl
 omega
theorem uP (L:List (List Nd×Int×Int)):∀a:Int,0≤a→L.foldl (fun d t=>max d t.2.1) a=max a (dpL L):=by
 unfold dpL
 induction L with
 | nil=>intro a ha;simp only[List.foldl_nil];omega
 | cons k L ih=>
   intro a ha;simp only[List.foldl_cons];rw[ih (max a k.2.1) (by omega),ih (max 0 k.2.1) (by omega)]
   omega
theorem qM (k:List Nd×Int×Int) (L:List (List Nd×Int×Int)):dpL (k::L)=max (max 0 k.2.1) (dpL L):=by
 have:=uP L (max 0 k.2.1) (by omega);unfold dpL at this ⊢;rw[List.foldl_cons];exact this
theorem WX.split {p d:Nat} {ts:List Nd} {ss:List Int} {E:List Nat} {S:List Int} (h:WX p d ts ss E S):∃L:List (List Nd×Int×Int),ts=(L.map (·.1)).flatten∧ss=L.map (·.2.2)∧dpL L=d∧∀k∈L,∃dk:Nat,k.2.1=dk∧∃E S,WX 0 dk k.1 [k.2.2] E S:=by
 induction h with
 | nil=>exact ⟨[],rfl,rfl,rfl,fun k h=>by cases h⟩
 | @cons p d e x ks rest ss rs s Ek Er Sk Sr hk hn hr ihk ihr=>
   obtain ⟨L,h1,h2,h3,h4⟩:=ihr;refine ⟨(x::ks,((d+1:Nat):Int),s)::L,by simp[h1],by simp[h2],by rw[qM,h3];show max (max (0:Int) ((d+1:Nat):Int)) (e:Int)=((max (d+1) e:Nat):Int);omega,fun k hk'=>?_⟩;rcases List.mem_cons.1 hk' with rfl | hk'
   · obtain ⟨F,hF⟩:=hk.shift 1;have:=WX.cons (p:=0) hF hn (.nil _);rw[List.append_nil,Nat.max_zero] at this;exact ⟨d+1,rfl,_,_,this⟩
   · exact h4 k hk'
theorem WX.kids {d:Nat} {ts:List Nd} {s:Int} {E:List Nat} {S:List Int} (h:WX 0 d ts [s] E S):∃(x:Nd) (L:List (List Nd×Int×Int)),ts=x::(L.map (·.1)).flatten∧NodeOk x (L.map (·.1)).flatten (L.map (·.2.2)) s∧dpL L+1=d∧∀k∈L,∃dk:Nat,k.2.1=dk∧∃E S,WX 0 dk k.1 [k.2.2] E S:=by
 cases h with
 | cons hk hn hr=>
   cases hr with
   | nil=>
     obtain ⟨L,h1,h2,h3,h4⟩:=hk.split;refine ⟨_,L,by rw[List.append_nil,h1],by rw[←h1,←h2];exact hn,by rw[h3];omega,h4⟩
end Go.Proofs.YtapdbeaoakcjeaaGreatDoor.Se
/- End and Kids of package tree. -/
namespace Go.Proofs.YtapdbeaoakcjeaaGreatDoor.Se
open Go.RowKit Nmx
def fV (l:List Nd):Int:=(l.map fun x=>x.kids-1).sum
theorem kA (x:Nd) (l:List Nd):fV (x::l)=x.kids-1+fV l:=by unfold fV;rw[List.map_cons,List.sum_cons]
theorem mH (a b:List Nd):fV (a++b)=fV a+fV b:=by unfold fV;rw[List.map_append,List.sum_append]
theorem WX.sum {p d:Nat} {ts:List Nd} {ss:List Int} {E:List Nat} {S:List Int} (h:WX p d ts ss E S):fV ts= -(ss.length:Int)∧∀m,m<ts.length→1≤(ss.length:Int)+fV (ts.take m):=by
 induction h with
 | nil=>exact ⟨rfl,fun m h=>absurd h (Nat.not_lt_zero m)⟩
 | @cons p d e x ks rest ss rs s Ek Er Sk Sr hk hn hr ihk ihr=>
   obtain ⟨a1,a2⟩:=ihk;obtain ⟨b1,b2⟩:=ihr;have hx:=hn.kn;refine ⟨by rw[kA,mH,a1,b1,hx,au];omega,fun m hm=>?_⟩;rw[au];cases m with
   | zero=>rw[List.take_zero];show 1≤((rs.length+1:Nat):Int)+0;omega
   | succ m=>
     rw[List.take_succ_cons,kA,List.take_append,mH,hx];simp only[au,aA] at hm
     by_cases hlt:m<ks.length
     · have:=a2 m hlt;rw[show m-ks.length=0 by omega,List.take_zero];have h0:fV []=0:=rfl
       omega
     · have h1:=b2 (m-ks.length) (by omega);rw[aJ (by omega:ks.length≤m),a1]
       omega
theorem uQ {ts:List Nd} {i q:Nat} {x:Nd} (h:ts[i+q]? =some x):fV ((ts.drop i).take (q+1))=fV ((ts.drop i).take q)+x.kids-1:=by
 rw[List.take_add_one,mH,List.getElem?_drop,h];show _+fV [x]=_;rw[kA];have h0:fV []=0:=rfl
 omega
section
theorem qN (g cap n i m:Nat) (ts:List Nd) (w:World) (hn:ts.length=n) (hmx:n≤1000000) (hc:NodesAt w g ts) (hi:i+m≤n) (hs:fV ((ts.drop i).take m)= -1) (hp:∀j,j<m→0≤fV ((ts.drop i).take j)) (hk:∀x∈ts,x.kids≤1000000):
    Calls Tryz.prog 72 #[.slice (some ⟨g,0,none⟩) n cap,.int .i64 i] w fun e w'=>e=.returned (.int .i64 ((i+m:Nat):Int))∧w=w':=by
 have HC:=hid hc;have HN:=hid hn;have HS:=hid hs;have HP:=hid hp;have HK:=hid hk;have h0:fV ((ts.drop i).take 0)=0:=rfl;have H0:=hid h0;clear hc hn hs hp hk h0
 go_enter Tryz.func72,Tryz.ntmps72
 go_wp2
 go_loop [1,5] (fun iv ov=>∃(q:Nat) (o:Int),q≤m∧iv=.int .i64 ((i+q:Nat):Int)∧ov=.int .i64 o∧o=1+fV ((ts.drop i).take q)∧o≤1+q*1000000) (fun iv _=>i+m-(intOf iv).toNat)
 case atStart=>exact ⟨0,1,aE _,rfl,rfl,by rw[H0.out];rfl,by omega⟩
 case round=>
  obtain ⟨q,o,hq,rfl,rfl,ho,hb⟩:=hrel;have HO:=hid ho;clear ho
  by_cases hlt:q<m
  · have hpos:0<o:=by rw[HO.out];have:=HP.out q hlt;omega
    obtain ⟨x,hx⟩:∃x,ts[i+q]? =some x:=⟨_,aq (by rw[HN.out];omega)⟩
    have hcell:w.cell? ⟨g,(i+q)*5+4,none⟩=some (.int .i64 x.kids):=HC.out (i+q) x hx 4 (by omega);have hxk:=HK.out x (List.mem_of_getElem? hx);have HNX:=hid (uQ hx)
    have hlow:0≤o+x.kids:=by
     by_cases hq1:q+1<m
     · have:=HP.out (q+1) hq1;rw[HNX.out] at this;rw[HO.out];omega
     · have:=HS.out;rw[show m=q+1 by omega,HNX.out] at this;rw[HO.out];omega
    clear hx;generalize x.kids=kx at *;obtain ⟨p,hpq⟩:∃p,i+q=p:=⟨_,rfl⟩
    have hp1:p<n:=by omega
    rw[hpq] at hcell ⊢;have HPQ:=hid hpq;clear hpq
    go_wp2
    go_round
    case rel=>exact ⟨q+1,o+(kx-1),by omega,by have:=HPQ.out;congr 1;omega,by go_num,by rw[HO.out,HNX.out];omega,by omega⟩
    case measure=>have:=HPQ.out;simp[intOf];omega
  · have hz:o=0:=by rw[HO.out,show q=m by omega,HS.out];rfl
    obtain rfl:q=m:=by omega
    subst hz;clear HO
    go_wp2
    go_ret
    exact ⟨rfl,rfl⟩
end
end Go.Proofs.YtapdbeaoakcjeaaGreatDoor.Se
/- Kids of package tree. -/
namespace Go.Proofs.YtapdbeaoakcjeaaGreatDoor.Se
open Go.RowKit Nmx
def tv (l:List Nd):Prop:=fV l= -1∧∀j,j<l.length→0≤fV (l.take j)
theorem WX.kidOk {d:Nat} {l:List Nd} {s:Int} {E:List Nat} {S:List Int} (h:WX 0 d l [s] E S):tv l:=by
 obtain ⟨h1,h2⟩:=h.sum;refine ⟨by rw[h1];rfl,fun j hj=>?_⟩;have:=h2 j hj;rw[aK] at this
 omega
def cH (g:Nat):Nat→List (List Nd)→List Value
 | _,[]=>[]
 | o,l::L=>.slice (some ⟨g,o*5,none⟩) l.length l.length::cH g (o+l.length) L
theorem kP (g:Nat):∀(L:List (List Nd)) (o:Nat),(cH g o L).length=L.length
 | [],_=>rfl
 | l::L,o=>by rw[cH,au,kP g L,au]
theorem jW (g:Nat) (l:List Nd):∀(L:List (List Nd)) (o:Nat),cH g o (L++[l])=cH g o L++[.slice (some ⟨g,(o+L.flatten.length)*5,none⟩) l.length l.length]
 | [],o=>rfl
 | m::L,o=>by
   rw[List.cons_append,cH,cH,jW g l L,List.cons_append,List.flatten_cons,aA,Nat.add_assoc]
theorem mU {x:Nd} {L:List (List Nd)} {j:Nat} (h:j<L.length):((x::L.flatten).drop (1+(L.take j).flatten.length)).take L[j].length=L[j]:=by
 have e:L.flatten=(L.take j).flatten++(L[j]++(L.drop (j+1)).flatten):=by
  rw[←List.flatten_cons,←List.drop_eq_getElem_cons h,←List.flatten_append,List.take_append_drop]
 rw[Nat.add_comm,List.drop_succ_cons,e,List.drop_left,List.take_left]
theorem pb:(Tryz.prog.info? 22).map (fun i=>(i.zero,i.size,i.bytes))=some (some (.slice none 0 0),1,24):=by kernel_rfl
theorem yr (n:Nat) (hn:n≤1000000) (W:World):
    (Instr.makeSlice 29 (.int .i64 0) (.int .i64 n)).run Tryz.prog W=.ok (.slice (some ⟨W.heap.size,0,none⟩) 0 n) (W.alloc (.cells (madeCells #[.slice none 0 0] n) 22)):=by
 obtain ⟨i0,hi,hz0,hz1,hz2⟩:=info_parts pb;have hr:=run_make (P:=Tryz.prog) W 29 22 i0 _ Tryz.underlying29 hi hz0 .i64 .i64 0 n (by omega) (by omega) (by rw[hz2];omega) (by omega);rw[hz1,Int.toNat_natCast,Nat.mul_one] at hr;exact hr
theorem uR (w:World) (n:Nat) (hn:n≤1000000):(w.alloc (.cells (madeCells #[.slice none 0 0] n) 22)).ownsRow w.heap.size 22 1 (.slice (some ⟨w.heap.size,0,none⟩) 0 n) 0 []:=
 World.ownsRow_made w _ n (ag _) (by unfold maxLen;omega) (by rw[size_madeCells,Nat.mul_one])
section
theorem pc (g cap:Nat) (x:Nd) (L:List (List Nd)) (w:World) (hn:1+L.flatten.length≤20000) (hLm:L.length≤20000) (hx:x.kids=L.length) (hc:NodesAt w g (x::L.flatten)) (hg:g<w.heap.size) (hcap:1+L.flatten.length≤cap)
    (hL:∀l∈L,tv l) (hk:∀y∈x::L.flatten,y.kids≤1000000):
    Calls Tryz.prog 37 #[.slice (some ⟨g,0,none⟩) (1+L.flatten.length) cap] w fun e w'=>∃v,e=.returned v∧w'.ownsRow w.heap.size 22 1 v L.length (cH g 1 L)∧Below w.heap.size w w':=by
 obtain ⟨i0,hi,hz0,hz1,hz2⟩:=info_parts pb;have hmk:=yr L.length (by omega)
 have c0:w.cell? ⟨g,4,none⟩=some (.int .i64 L.length):=by
  have:=hc 0 x rfl 4 (by omega);rw[show (0*5+4:Nat)=4 by rfl] at this;rw[this];show some (Value.int .i64 x.kids)=_;rw[hx]
 have hrow:=uR w L.length (by omega);have hA:=aD w (.cells (madeCells #[.slice none 0 0] L.length) 22);have hlen:(x::L.flatten).length=1+L.flatten.length:=by rw[au,Nat.add_comm]
 have HC:=hid hc;have HL:=hid hL;have HK:=hid hk;have HLEN:=hid hlen;have HROW:=hid hrow;have HA:=hid hA;have c0':=(hA.cell (p:=⟨g,4,none⟩) hg).trans c0;obtain ⟨N,hN⟩:∃N,1+L.flatten.length=N:=⟨_,rfl⟩
 have HN:=hid hN;rw[hN] at hn hcap HLEN ⊢;obtain ⟨n,hnL⟩:∃n,L.length=n:=⟨_,rfl⟩
 have HNL:=hid hnL;rw[hnL] at hLm hmk c0 c0' HROW HA ⊢;have hpos:0<N:=by omega
 clear hc hx hL hk hlen hN hnL hrow hA
 go_enter Tryz.func37,Tryz.ntmps37
 go_wp2
 generalize hw1:w.alloc (.cells (madeCells #[.slice none 0 0] n) 22)=w1 at *;generalize hB:w.heap.size=B at *;have HBe:=hid hB;clear hmk hw1 hB
 go_loopw [3,4,15] (fun lv av kv wr=>∃j:Nat,j≤n∧kv=.int .i64 j∧av=.int .i64 ((1+(L.take j).flatten.length:Nat):Int)∧wr.ownsRow B 22 1 lv j (cH g 1 (L.take j))∧Below B w wr) (fun _ _ kv _=>n-(intOf kv).toNat)
 case atStart=>exact ⟨0,aE _,rfl,rfl,HROW.out,HA.out⟩
 case round=>
  obtain ⟨j,hj,rfl,rfl,hown,hbel⟩:=hrel;have HO:=hid hown;have HB:=hid hbel;have hbs:B≤wr.heap.size:=by have:=hbel.size;have:=HBe.out;omega
  clear hown hbel
  by_cases hlt:j<n
  · have hjL:j<L.length:=by rw[HNL.out];exact hlt
    have hkd:=HL.out L[j] (List.getElem_mem hjL);have htd:=mU (x:=x) hjL;have hfl:(L.take (j+1)).flatten.length=(L.take j).flatten.length+L[j].length:=by rw[d9 hjL,aA]
    have hle:(L.take (j+1)).flatten.length≤L.flatten.length:=by
     rw[show L.flatten=(L.take (j+1)).flatten++(L.drop (j+1)).flatten by rw[←List.flatten_append,List.take_append_drop],aA];omega
    have hend:=qN g cap N (1+(L.take j).flatten.length) L[j].length (x::L.flatten) wr HLEN.out (by omega) (HC.out.below HB.out hg) (by have:=HN.out;omega) (by rw[htd];exact hkd.1)
     (fun q hq=>by
       have:=hkd.2 q hq;rw[←htd,List.take_take,Nat.min_eq_left (aI hq)] at this
       exact this) HK.out
    have HSN:Hid (cH g 1 (L.take (j+1))=cH g 1 (L.take j)++[.slice (some ⟨g,(1+(L.take j).flatten.length)*5,none⟩) L[j].length L[j].length]):=hid (by
     rw[List.take_add_one,aq hjL];exact jW g _ _ _)
    have HFL:Hid (1+(L.take (j+1)).flatten.length=1+(L.take j).flatten.length+L[j].length):=hid (by omega);have hcap2:1+(L.take j).flatten.length+L[j].length≤cap:=by have:=HN.out;omega
    have hm0:0<L[j].length:=by
     rcases Nat.eq_zero_or_pos L[j].length with h | h
     · have:=hkd.1;rw[List.length_eq_zero_iff.1 h] at this;cases this
     · exact h
    clear hkd htd hfl hle;generalize L[j].length=m at *;generalize 1+(L.take j).flatten.length=a at *;generalize cH g 1 (L.take j)=vs at *
    go_wp2_with fail
    refine hend.mono ?_;rintro e w2 ⟨rfl,rfl⟩;clear hend
    go_wp2_with (at_builtin;go_loud (refine wpList_append_own _ rfl _ _ 29 rfl B 22 i0 _ 1 24 Tryz.underlying29 hi hz0 hz1 hz2 rfl (by decide) _ j vs rfl (HO.out.alloc _) ⟨wr.heap.size,0,none⟩ 1 1 [.slice (some ⟨g,a*5,none⟩) m m] rfl rfl (World.news_of_block (cs:=#[.slice (some ⟨g,a*5,none⟩) m m]) (t:=22) (fr:=(0,0)) (heap_alloc_new wr _)) (by simp[Value.oneCell']) (by unfold maxLen;omega) (by omega) (by simp;omega) ?_))
    intro v' w4 hown' hgrow _;have HO4:=hid hown';have HB4:=hid ((HB.out.alloc hbs _).grown hgrow (by simp;omega) (fun q hq=>(HO.out.lt q hq).1));clear hown' hgrow
    go_wp2
    go_roundw
    case rel=>exact ⟨j+1,by omega,by go_num,by rw[HFL.out,Int.natCast_add],by rw[HSN.out];exact HO4.out,HB4.out⟩
    case measure=>simp[intOf];omega
  · obtain rfl:j=n:=by omega
    have hall:L.take j=L:=aJ (by rw[HNL.out];exact ag _);rw[hall] at HO
    go_wp2
    go_ret
    exact ⟨_,rfl,by rw[HBe.out];exact HO.out,by rw[HBe.out];exact HB.out⟩
end
end Go.Proofs.YtapdbeaoakcjeaaGreatDoor.Se
/- Kids and Depth of package term. -/
namespace Go.Proofs.YtapdbeaoakcjeaaGreatDoor.Se
open Go.RowKit Nmx
theorem tw (g o q:Nat):(⟨g,o,none⟩:Addr).add q=⟨g,o+q,none⟩:=by
 unfold Addr.add
 split
 · rename_i h;rw[h,Nat.add_zero]
 · rfl
section
theorem lf (g o n c:Nat) (ts:List Nd) (w:World) (hn:ts.length=n) (h0:0<n) (hm:n≤1000000) (hN:∀(j:Nat) (u:Value),(bm ts)[j]? =some u→w.cell? ⟨g,o+j,none⟩=some u) (hg:g<w.heap.size):
    Calls Tryz.prog 38 #[.slice (some ⟨g,o,none⟩) n c] w fun e w'=>∃g' c',e=.returned (.slice (some ⟨g',0,none⟩) n c')∧NodesAt w' g' ts∧Sft w' g' n∧w.heap.size≤g'∧Below w.heap.size w w':=by
 obtain ⟨i0,hi,hz0,hz1,hz2⟩:=info_parts fR;have HN:=hid hN;have HL:=hid hn;have HFL:Hid ((bm ts).length=n*5):=hid (by rw[du,hn]);have HON:=hid (i5 ts);clear hN hn;have hq:∀w':World,(binOp .eql 22 (.slice (some ⟨g,o,none⟩) n c) (.slice none 0 0)).run Tryz.prog w'=.ok (.bool false) w':=fun w'=>Lib.run_eql_slice_nil w' _ _ (some ⟨g,o,none⟩) n c 0 0 Tryz.underlying22
 go_enter Tryz.func38,Tryz.ntmps38
 have hown:(w.alloc (.cells #[] 34)).ownsRow w.heap.size 34 5 (.slice (some ⟨w.heap.size,0,none⟩) 0 0) 0 []:=⟨rfl,.inr ⟨w.heap.size,0,#[],rfl,ag _,heap_alloc_new w _,ag _,by unfold maxLen;omega,rfl,rfl⟩⟩
 have hgw:∀q,(w.alloc (.cells #[] 34)).cell? ⟨g,q,none⟩=w.cell? ⟨g,q,none⟩:=fun q=>(aD w _).cell (p:=⟨g,q,none⟩) hg
 have HOW:=hid hown;have HGW:=hid hgw;clear hown hgw
 go_wp2_with (at_builtin;go_loud (refine wpList_append_own _ rfl _ _ 22 rfl w.heap.size 34 i0 _ 5 56 Tryz.underlying22 hi hz0 hz1 hz2 rfl (by decide) (.slice (some ⟨w.heap.size,0,none⟩) 0 0) 0 [] rfl HOW.out ⟨g,o,none⟩ n c (bm ts) rfl HFL.out (fun q u hq=>by rw[tw];exact (HGW.out _).trans (HN.out q u hq)) HON.out (by unfold maxLen;omega) (by omega) (by simp) ?_))
 intro v' w4 hrow hgr hnil0;have hb:Below w.heap.size w w4:=(aD w _).grown hgr (by simp) (fun k e=>by have e':w.heap.size=k:=aG e;omega)
 obtain ⟨B',c',hv'⟩:∃B' c',v'=.slice (some ⟨B',0,none⟩) n c':=by
  obtain ⟨_,h1 | ⟨g,cap,cur,hv,_⟩⟩:=id hrow
  · exact absurd h1.2 (by omega)
  · exact ⟨g,cap,hv⟩
 subst hv';have HRW:=hid hrow;have HB:=hid hb;clear hrow hgr hnil0 hb
 go_wp2
 go_ret
 exact ⟨B',c',rfl,dC (fun q hq=>HRW.out.cellAt q (by rw[HL.out] at hq;exact hq)),.row HRW.out,(HRW.out.lt B' rfl).1,HB.out⟩
end
def KidsN (S:Nat) (w:World) (ak:Option Addr) (gk:Nat) (L:List (List Nd)):Prop:=
 (L.length≠0→ak=some ⟨gk,0,none⟩)∧gk<w.heap.size∧∀j t,L[j]? =some t→∃g c,w.cell? ⟨gk,j,none⟩=some (.slice (some ⟨g,0,none⟩) t.length c)∧NodesAt w g t∧Sft w g t.length∧S≤g
theorem KidsN.kds {S:Nat} {w:World} {ak:Option Addr} {gk:Nat} {L:List (List Nd)} (h:KidsN S w ak gk L):Kds w ak gk L:=
 ⟨h.1,h.2.1,fun j t ht=>let ⟨g,c,h1,h2,h3,_⟩:=h.2.2 j t ht;⟨g,c,h1,h2,h3.lt⟩⟩
theorem KidsN.far {S:Nat} {w w':World} {ak:Option Addr} {gk:Nat} {L:List (List Nd)} (h:KidsN S w ak gk L) (hb:Below w.heap.size w w'):KidsN S w' ak gk L:=
 ⟨h.1,ap h.2.1 hb.size,fun j t ht=>let ⟨g,c,h1,h2,h3,h4⟩:=h.2.2 j t ht;⟨g,c,(hb.cell (p:=⟨gk,j,none⟩) h.2.1).trans h1,h2.below hb h3.lt,h3.far hb,h4⟩⟩
def fW (w:World) (L:List (List Nd)) (e:Ending) (w':World):Prop:=
 ∃ak gk ck,e=.returned (.slice ak L.length ck)∧KidsN w.heap.size w' ak gk L∧Below w.heap.size w w'
structure KL (S g0:Nat) (w:World) (L:List (List Nd)) (B cp:Nat) (i:Nat) (W:World):Prop where
 row:∃xs:List Value,xs.length=L.length∧(∀q t,q<i→L[q]? =some t→∃g c,xs[q]? =some (.slice (some ⟨g,0,none⟩) t.length c)∧NodesAt W g t∧Sft W g t.length∧S≤g∧g≠B)∧(∀q,i≤q→xs[q]? =(cH g0 1 L)[q]?)∧
  W.ownsRow S 22 1 (.slice (some ⟨B,0,none⟩) L.length cp) L.length xs
 bel:Below S w W
theorem KL.lt {S g0:Nat} {w:World} {L:List (List Nd)} {B cp i:Nat} {W:World} (h:KL S g0 w L B cp i W):S≤B∧B<W.heap.size:=by
 obtain ⟨_,_,_,_,h4⟩:=h.row;exact h4.lt B rfl
theorem KL.far {S g0:Nat} {w:World} {L:List (List Nd)} {B cp i:Nat} {W W':World} (h:KL S g0 w L B cp i W) (hb:Below W.heap.size W W'):KL S g0 w L B cp i W':=by
 obtain ⟨xs,h1,h2,h3,h4⟩:=h.row;refine ⟨⟨xs,h1,fun q t hq ht=>?_,h3,bl h4 hb (fun g hg=>(h4.lt g hg).2)⟩,h.bel.trans (hb.mono (aC h.lt.1 (aI h.lt.2)))⟩;obtain ⟨g,c,k1,k2,k3,k4,k5⟩:=h2 q t hq ht;exact ⟨g,c,k1,k2.below hb k3.lt,k3.far hb,k4,k5⟩
theorem KL.cell {S g0:Nat} {w:World} {L:List (List Nd)} {B cp i:Nat} {W:World} (h:KL S g0 w L B cp i W) (hi:i<L.length):W.cell? ⟨B,i,none⟩=(cH g0 1 L)[i]? ∧(∃u,W.cell? ⟨B,i,none⟩=some u)∧W.frozen? ⟨B,i,none⟩=false:=by
 obtain ⟨xs,h1,h2,h3,h4⟩:=h.row;have hc:=h4.cellAt i (by omega);exact ⟨by rw[hc,h3 i (ag _)],⟨_,hc.trans (aq (by omega))⟩,h4.frozenAt i⟩
theorem KL.set {S g0:Nat} {w:World} {L:List (List Nd)} {B cp i:Nat} {W:World} (h:KL S g0 w L B cp i W) {t:List Nd} (ht:L[i]? =some t) {g c:Nat} (hN:NodesAt W g t) (hg:Sft W g t.length) (hS:S≤g) (hB:g≠B):KL S g0 w L B cp (i+1) (W.setCell ⟨B,i,none⟩ (.slice (some ⟨g,0,none⟩) t.length c)):=by
 obtain ⟨xs,h1,h2,h3,h4⟩:=h.row;have hi:i<L.length:=(List.getElem?_eq_some_iff.1 ht).1;have hst:∀(g':Nat) (t':List Nd),NodesAt W g' t'→g'≠B→NodesAt (W.setCell ⟨B,i,none⟩ (.slice (some ⟨g,0,none⟩) t.length c)) g' t':=fun g' t' hN' hne q x hx j hj=>(World.cell?_of_block (aB _ _ _ _ (by show g'≠B;exact hne))).trans (hN' q x hx j hj)
 refine ⟨⟨xs.set i (.slice (some ⟨g,0,none⟩) t.length c),by rw[aL];exact h1,fun q u hq hu=>?_,fun q hq=>?_,(h4.stored i _).1⟩,h.bel.setCell (show S≤B from h.lt.1) _⟩
 · by_cases hqi:q=i
   · subst hqi;obtain rfl:t=u:=aG (ht.symm.trans hu);exact ⟨g,c,by rw[List.getElem?_set_self (by omega)],hst g t hN hB,hg.keep (aB _ _ _ _ hB),hS,hB⟩
   · obtain ⟨g',c',k1,k2,k3,k4,k5⟩:=h2 q u (by omega) hu;exact ⟨g',c',by rw[List.getElem?_set_ne (fun e=>hqi e.symm)];exact k1,hst g' u k2 k5,k3.keep (aB _ _ _ _ k5),k4,k5⟩
 · rw[List.getElem?_set_ne (by omega)];exact h3 q (by omega)
theorem KL.fin {S g0:Nat} {w:World} {L:List (List Nd)} {B cp:Nat} {W:World} (h:KL S g0 w L B cp L.length W):KidsN S W (some ⟨B,0,none⟩) B L:=by
 obtain ⟨xs,h1,h2,h3,h4⟩:=h.row;refine ⟨fun _=>rfl,h.lt.2,fun j t ht=>?_⟩;have hj:j<L.length:=(List.getElem?_eq_some_iff.1 ht).1;obtain ⟨g,c,k1,k2,k3,k4,-⟩:=h2 j t hj ht;exact ⟨g,c,(h4.cellAt j (by omega)).trans k1,k2,k3,k4⟩
theorem kQ (g:Nat):∀(L:List (List Nd)) (o j:Nat) (t:List Nd),L[j]? =some t→(cH g o L)[j]? =some (.slice (some ⟨g,(o+(L.take j).flatten.length)*5,none⟩) t.length t.length)
 | [],_,_,_,h=>by cases h
 | l::L,o,0,t,h=>by cases h;rfl
 | l::L,o,j+1,t,h=>by
   rw[List.getElem?_cons_succ] at h;rw[cH,List.getElem?_cons_succ,kQ g L _ j t h,List.take_succ_cons,List.flatten_cons,aA,Nat.add_assoc]
theorem nS {w:World} {g:Nat} {x:Nd} {L:List (List Nd)} (hc:NodesAt w g (x::L.flatten)) {j:Nat} {t:List Nd} (ht:L[j]? =some t):∀(q:Nat) (u:Value),(bm t)[q]? =some u→w.cell? ⟨g,(1+(L.take j).flatten.length)*5+q,none⟩=some u:=fun q u hq=>by
 obtain ⟨hj,rfl⟩:=List.getElem?_eq_some_iff.1 ht;have hl:q<L[j].length*5:=by rw[←du];exact (List.getElem?_eq_some_iff.1 hq).1
 refine e7 hc _ u ?_
 have e:x::L.flatten=(x::(L.take j).flatten)++(L[j]++(L.drop (j+1)).flatten):=by
  rw[List.cons_append,←List.flatten_cons,←List.drop_eq_getElem_cons hj,←List.flatten_append,List.take_append_drop]
 have hf:∀a b:List Nd,bm (a++b)=bm a++bm b:=fun a b=>by unfold bm;exact List.flatMap_append
 have hla:(bm (x::(L.take j).flatten)).length=(1+(L.take j).flatten.length)*5:=by rw[du,au,Nat.add_comm]
 rw[e,hf,hf,List.getElem?_append_right (by omega),hla,Nat.add_sub_cancel_left,List.getElem?_append_left (by rw[du];exact hl)];exact hq
section
theorem pd (g cap:Nat) (x:Nd) (L:List (List Nd)) (w:World) (hn:1+L.flatten.length≤20000) (hLm:L.length≤20000) (hx:x.kids=L.length) (hc:NodesAt w g (x::L.flatten)) (hg:g<w.heap.size) (hcap:1+L.flatten.length≤cap)
    (hL:∀l∈L,tv l) (hk:∀y∈x::L.flatten,y.kids≤1000000)
    (hv:Calls Tryz.prog 13 #[.slice (some ⟨g,0,none⟩) (1+L.flatten.length) cap] w fun e w'=>e=.returned (.bool true)∧Below w.heap.size w w'):
    Calls Tryz.prog 12 #[.slice (some ⟨g,0,none⟩) (1+L.flatten.length) cap] w (fW w L):=by
 have HC:=hid hc;have HL:=hid hL;have HKK:=hid fun W (hW:Below w.heap.size w W)=>pc g cap x L W hn hLm hx (hc.below hW hg) (ap hg hW.size) hcap hL hk
 clear hc hL hk hx;obtain ⟨N,hN⟩:∃N,1+L.flatten.length=N:=⟨_,rfl⟩
 have HN:=hid hN;rw[hN] at hn hcap hv HKK ⊢;clear hN
 go_enter Tryz.func12,Tryz.ntmps12
 go_wp2_with fail
 refine hv.mono ?_;rintro e w1 ⟨rfl,hb1⟩;have hkk:=HKK.out w1 hb1;have HB1:=hid hb1;clear hb1 hv HKK
 go_wp2_with fail
 refine hkk.mono ?_;rintro e w2 ⟨v,rfl,hrow,hb2⟩;have hB2:=HB1.out.trans (hb2.mono HB1.out.size);have hs1:=HB1.out.size;have hs2:=hb2.size
 by_cases h0:L.length=0
 · obtain ⟨ak,ck,hv⟩:∃ak ck,v=.slice ak 0 ck:=by
     rw[h0] at hrow;obtain ⟨_,h1 | ⟨g,cap,cur,hv,_⟩⟩:=hrow
     · exact ⟨none,0,h1.1⟩
     · exact ⟨_,cap,hv⟩
   subst hv;have HB:=hid hB2;have H0:=hid h0;have HFIN:Hid (fW w L (.returned (.slice ak 0 ck)) w2):=hid ⟨ak,0,ck,by rw[H0.out],⟨fun h=>absurd H0.out h,by omega,fun j t ht=>by rw[List.length_eq_zero_iff.1 H0.out] at ht;cases ht⟩,HB.out⟩;clear hrow hb2 hB2 h0 hkk
   go_wp2
   go_loop [12] (fun i=>i=.int .i64 0) (fun _=>0)
   case atStart=>rfl
   case round=>
    obtain rfl:=hrel
    go_wp2
    go_ret
    exact HFIN.out
 · obtain ⟨B,cp,hv,hbB,hcp1,hcp2⟩:=aS hrow (by omega);subst hv;have hkl:KL w1.heap.size g w1 L B cp 0 w2:=⟨⟨cH g 1 L,kP g L 1,fun q t hq=>absurd hq (Nat.not_lt_zero q),fun _ _=>rfl,hrow⟩,hb2⟩
   have HKL:=hid hkl;have hgw1:g<w1.heap.size:=ap hg hs1;have HC1:=hid (HC.out.below HB1.out hg);obtain ⟨n,hnL⟩:∃n,L.length=n:=⟨_,rfl⟩
   have HNL:=hid hnL;rw[hnL] at hLm hcp1 ⊢;clear hkl hrow hb2 hB2 hkk h0 hnL hs2;generalize hS:w1.heap.size=S at *;have HSe:=hid hS;clear hS
   go_wp2
   go_loopw [12] (fun i wr=>∃j:Nat,j≤n∧i=.int .i64 j∧KL S g w1 L B cp j wr) (fun i _=>n-(intOf i).toNat)
   case atStart=>exact ⟨0,aE _,rfl,HKL.out⟩
   case round=>
    obtain ⟨j,hj,rfl,hkl⟩:=hrel;have HK:=hid hkl;clear hkl
    by_cases hlt:j<n
    · have hjL:j<L.length:=by rw[HNL.out];exact hlt
      have hlj:L[j]? =some L[j]:=aq hjL;obtain ⟨hcl,-,-⟩:=HK.out.cell hjL;rw[kQ g L 1 j L[j] hlj] at hcl
      have hpos:0<L[j].length:=by
       rcases Nat.eq_zero_or_pos L[j].length with h | h
       · have:=(HL.out L[j] (List.getElem_mem hjL)).1;rw[List.length_eq_zero_iff.1 h] at this;cases this
       · exact h
      have hfl:L[j].length≤L.flatten.length:=by
       rw[show L.flatten=(L.take j).flatten++(L[j]++(L.drop (j+1)).flatten) by rw[←List.flatten_cons,←List.drop_eq_getElem_cons hjL,←List.flatten_append,List.take_append_drop],aA,aA];omega
      have hgr:g<wr.heap.size:=ap (by rw[HSe.out];exact hgw1) HK.out.bel.size;have hcln:=lf g ((1+(L.take j).flatten.length)*5) L[j].length L[j].length L[j] wr rfl hpos (by have:=HN.out;omega) (nS (HC1.out.below HK.out.bel hgw1) hlj) hgr;obtain ⟨m,hm⟩:∃m,L[j].length=m:=⟨_,rfl⟩
      have HM:=hid hm;rw[hm] at hcl hcln;clear hm hfl hpos;generalize (1+(L.take j).flatten.length)*5=o at *
      go_wp2_with fail
      refine hcln.mono ?_;rintro e w4 ⟨g',c',rfl,hN,hgl,hge,hb4⟩;have hgB:g'≠B:=by have:=HK.out.lt.2;omega
      have hK4:=HK.out.far hb4;obtain ⟨-,⟨u,hu⟩,hfz⟩:=hK4.cell hjL;have HK5:=hid (hK4.set (c:=c') hlj hN (by rw[HM.out];exact hgl) (aC (aC HK.out.lt.1 (aI HK.out.lt.2)) hge) hgB);rw[HM.out] at HK5;clear hN hb4 hK4 hcln HK hcl
      go_wp2
      go_roundw
      case rel=>exact ⟨j+1,by omega,by go_num,HK5.out⟩
      case measure=>simp[intOf];omega
    · obtain rfl:j=n:=by omega
      have hfin:=HK.out;rw[←HNL.out] at hfin
      have HFIN:Hid (fW w L (.returned (.slice (some ⟨B,0,none⟩) L.length cp)) wr):=hid ⟨_,B,cp,rfl,(by
       obtain ⟨k1,k2,k3⟩:=hfin.fin
       exact ⟨k1,k2,fun q t ht=>let ⟨g',c',m1,m2,m3,m4⟩:=k3 q t ht;⟨g',c',m1,m2,m3,by have:=HSe.out;omega⟩⟩),HB1.out.trans (hfin.bel.mono (by have:=HSe.out;omega))⟩
      rw[HNL.out] at HFIN;clear hfin HK
      go_wp2
      go_ret
      exact HFIN.out
end
end Go.Proofs.YtapdbeaoakcjeaaGreatDoor.Se
/- What with hands back is a term; its children. -/
namespace Go.Proofs.YtapdbeaoakcjeaaGreatDoor.Se
open Go.RowKit Nmx
theorem zw {x:Nd} {ks:List Nd} (h5:x.op=5) (hn:Nm vs8 ks) (hx:bh x.name vs8=none) (E:List Nat) (S:List Int):naF (x::ks) E S=true:=by
 obtain ⟨U,hU,hV⟩:=hn.nag E S 1 [] (eY x.name (aU E S 0++[x.sort]) []) (fun k v hk=>by cases hk);unfold naF;simp only[cB];rw[if_neg (by omega),if_pos h5];simp only[bh,Option.all_none,if_true];rw[hU];simp only[List.all_eq_true];intro y hy;rcases List.mem_cons.1 hy with rfl | hy
 · have:bh y.name U=none:=by
     cases h:bh y.name U with
     | none=>rfl
     | some v=>rw[hV _ _ h] at hx;cases hx
   simp[this]
 · have:=(hn y hy).1
   simp[this]
structure WOk (ts:List Nd) (s:Int):Prop where
 wt:WT 8 ts s
 na:∀E S,naF ts E S=true
 sh:∀y∈ts,y.num.size≤60
 le:ts.length≤420
 tl:Nm vs8 ts.tail
 rt:∀x,ts[0]? =some x→(x.op≠5∧(x.op=4→bh x.name vs8=some x.sort))∨(x.op=5∧bh x.name vs8=none)
theorem WOk.un {ts:List Nd} {s:Int} (h:WOk ts s) (k:Nat) (x:Nd) (hk:ts[k]? =some x):(x.op≠5∧(x.op=4→bh x.name vs8=some x.sort))∨(k=0∧x.op=5∧bh x.name vs8=none):=by
 cases k with
 | zero=>exact (h.rt x hk).imp id (fun e=>⟨rfl,e⟩)
 | succ k=>exact .inl (h.tl x (List.mem_of_getElem? (i:=k) (by rw[List.getElem?_tail];exact hk)))
theorem Nm.app {V:List (ByteArray×Int)} {a b:List Nd} (h1:Nm V a) (h2:Nm V b):Nm V (a++b):=fun x hx=>(List.mem_append.1 hx).elim (h1 x) (h2 x)
theorem pe {x:Nd} {L:List (List Nd)} {ss:List Int} {s:Int} (hn:NodeOk x L.flatten ss s) (hT:Tms vs8 7 418 L ss) (h5:x.op=5) (hx:bh x.name vs8=none) (hs:x.num.size≤60) (hl:L.flatten.length≤419) (hN:Nm vs8 L.flatten) (hS:∀y∈L.flatten,y.num.size≤60):WOk (x::L.flatten) s:=by
 obtain ⟨E,S,hw⟩:=hT.we 1;have h2:=WE.cons (p:=0) hw hn (.nil _ _);rw[List.append_nil] at h2;refine ⟨⟨_,_,h2⟩,zw h5 hN hx,fun y hy=>?_,by rw[au];omega,hN,fun y hy=>.inr ((show x=y by simpa using hy) ▸ ⟨h5,hx⟩)⟩;rcases List.mem_cons.1 hy with rfl | hy
 · exact hs
 · exact hS y hy
theorem Wth.ok {ts:List Nd} (h:Wth ts):∃s,WOk ts s:=by
 obtain ⟨t0,s,ht,rfl | ⟨rfl,rfl⟩ | ⟨rfl,q,hq,rfl⟩ | ⟨rfl,rfl⟩⟩:=h
 · exact ⟨s,ht.wt.mono (by decide),fun E S=>ht.nm.na E S,ht.sh,aC ht.le (by decide),fun y hy=>ht.nm y (List.mem_of_mem_tail hy),fun y hy=>.inl (ht.nm y (List.mem_of_getElem? hy))⟩
 · have e:t0=[t0].flatten:=by simp
   have hle:=ht.le;rw[e];exact ⟨2,pe ⟨by decide+kernel,rfl,by decide,fun e=>absurd e (by decide)⟩ (.cons ht .nil) rfl (by decide+kernel) (by decide) (by simp;omega) (by rw[←e];exact ht.nm) (by rw[←e];exact ht.sh)⟩
 · have hn:=fF 3 q (.inl rfl) hq;have e:t0++[dI 3 q]=[t0,[dI 3 q]].flatten:=by simp
   have hle:=ht.le;have hnm:Nm vs8 (t0++[dI 3 q]):=ht.nm.app hn.nm;have hsh:∀y∈t0++[dI 3 q],y.num.size≤60:=fun y hy=>(List.mem_append.1 hy).elim (ht.sh y) (hn.sh y)
   rw[e] at hnm hsh ⊢;exact ⟨1,pe ⟨by decide+kernel,rfl,by decide,fun e=>absurd e (by decide)⟩ (.cons ht (.cons (hn.mono (by decide) (by decide)) .nil)) rfl (by decide+kernel) (by decide) (by simp;omega) hnm hsh⟩
 · have e:t0=[t0].flatten:=by simp
   have hle:=ht.le;rw[e];exact ⟨4,pe ⟨by decide+kernel,rfl,by decide,fun e=>absurd e (by decide)⟩ (.cons ht .nil) rfl (by decide+kernel) (by decide) (by simp;omega) (by rw[←e];exact ht.nm) (by rw[←e];exact ht.sh)⟩
structure KOk (k:List Nd×Int×Int):Prop where
 wx:∃dk:Nat,k.2.1=dk∧dk≤8∧∃E S,WX 0 dk k.1 [k.2.2] E S
 nm:Nm vs8 k.1
 sh:∀y∈k.1,y.num.size≤60
 le:k.1.length≤420
theorem yt {L:List (List Nd×Int×Int)} {k:List Nd×Int×Int} (h:k∈L):k.2.1≤dpL L:=by
 induction L with
 | nil=>cases h
 | cons a L ih=>
   rw[qM];rcases List.mem_cons.1 h with rfl | h
   · omega
   · have:=ih h;omega
structure RootAt (ts:List Nd) (s:Int) (x:Nd) (L:List (List Nd×Int×Int)) (E:List Nat) (S:List Int):Prop where
 eq:ts=x::(L.map (·.1)).flatten
 ok:NodeOk x (L.map (·.1)).flatten (L.map (·.2.2)) s
 we:WE 0 8 ts [s] E S
 hg:br 0 E [] 0=(dpL L+1).toNat
 dp:0≤dpL L∧dpL L≤7
 ks:∀k∈L,KOk k
theorem WOk.root {ts:List Nd} {s:Int} (h:WOk ts s):∃x L E S,RootAt ts s x L E S:=by
 obtain ⟨E,S,hw⟩:=h.wt;obtain ⟨d,hd,hx⟩:=hw.ex;obtain ⟨x,L,he,hn,hdp,hk⟩:=hx.kids;have hd0:0≤dpL L:=wC L;refine ⟨x,L,E,S,he,hn,hw,by rw[hx.hgt];omega,⟨hd0,by omega⟩,fun k hkL=>?_⟩;obtain ⟨dk,e,E',S',hwx⟩:=hk k hkL;have hmem:∀y∈k.1,y∈ts.tail:=fun y hy=>by rw[he];exact List.mem_flatten.2 ⟨k.1,List.mem_map.2 ⟨k,hkL,rfl⟩,hy⟩
 have hdk:=yt hkL;refine ⟨⟨dk,e,by omega,E',S',hwx⟩,fun y hy=>h.tl y (hmem y hy),fun y hy=>h.sh y (List.mem_of_mem_tail (hmem y hy)),?_⟩;have hl:=h.le;rw[he] at hl;rw[au] at hl;have:=(List.sublist_flatten_of_mem (List.mem_map.2 ⟨k,hkL,rfl⟩:k.1∈L.map (·.1))).length_le
 omega
end Go.Proofs.YtapdbeaoakcjeaaGreatDoor.Se
/- Valid, SortOf, Depth, Kids of package term at terms of the law. -/
namespace Go.Proofs.YtapdbeaoakcjeaaGreatDoor.Se
open Go.RowKit Nmx
theorem KOk.ok {k:List Nd×Int×Int} (h:KOk k):WOk k.1 k.2.2:=by
 obtain ⟨dk,-,hd,E,S,hx⟩:=h.wx;exact ⟨WT.mono ⟨E,S,hx.we⟩ hd,fun E S=>h.nm.na E S,h.sh,h.le,fun y hy=>h.nm y (List.mem_of_mem_tail hy),fun x hx=>.inl (h.nm x (List.mem_of_getElem? hx))⟩
theorem WOk.ne {ts:List Nd} {s:Int} (h:WOk ts s):ts≠[]:=by
 obtain ⟨E,S,hw⟩:=h.wt;intro e;have:=hw.lens;rw[e] at this
 simp at this
theorem WOk.vd {ts:List Nd} {s:Int} (h:WOk ts s):vdF (naF ts) ts=true∧soF (naF ts) ts=s:=by
 obtain ⟨E,S,hw⟩:=h.wt;obtain ⟨h1,h2⟩:=WT.shp hw (by decide) (aC h.le (by decide));unfold vdF soF;rw[h1];simp only;rw[h.na,if_pos rfl];exact ⟨rfl,h2⟩
section
theorem tA {ts:List Nd} {s:Int} (h:WOk ts s) (g cap:Nat) (w:World) (hEn:Env w) (hN:NodesAt w g ts) (hg:g<w.heap.size):
    Calls Tryz.prog 39 #[.slice (some ⟨g,0,none⟩) ts.length cap] w (ChkPost (naF ts) ts w):=
 sX (naF ts) (some ⟨g,0,none⟩) g cap ts w (fun _=>rfl) hg hN (fun x hx=>aC (h.sh x hx) (by decide)) hEn (wn h.vd.1)
  fun W E Ss ge gs ce cs hN hgW he hs hge hgs hcE hcS=>e6 g cap ge ce gs cs ts E Ss W hgW hN (aC h.le (by decide)) he hs hge hgs hcE hcS
theorem uS {ts:List Nd} {s:Int} (h:WOk ts s) (g cap:Nat) (w:World) (hEn:Env w) (hN:NodesAt w g ts) (hg:g<w.heap.size):
    Calls Tryz.prog 13 #[.slice (some ⟨g,0,none⟩) ts.length cap] w fun e w'=>e=.returned (.bool true)∧Below w.heap.size w w':=by
 have:=qn (tA h g cap w hEn hN hg);rw[h.vd.1] at this;exact this
theorem sm {ts:List Nd} {s:Int} (h:WOk ts s) (g cap:Nat) (w:World) (hEn:Env w) (hN:NodesAt w g ts) (hg:g<w.heap.size):
    Calls Tryz.prog 23 #[.slice (some ⟨g,0,none⟩) ts.length cap] w fun e w'=>e=.returned (.int .i64 s)∧Below w.heap.size w w':=by
 have:=nM h.ne (tA h g cap w hEn hN hg);rw[h.vd.2] at this;exact this
end
end Go.Proofs.YtapdbeaoakcjeaaGreatDoor.Se

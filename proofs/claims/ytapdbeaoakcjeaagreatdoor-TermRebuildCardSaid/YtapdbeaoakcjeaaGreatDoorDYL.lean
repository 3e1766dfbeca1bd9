import Derived.Test.YtapdbeaoakcjeaaGreatDoorDWJ
import Derived.Test.YtapdbeaoakcjeaaGreatDoorDUY
import Derived.Test.YtapdbeaoakcjeaaGreatDoorDLS
import Derived.Test.YtapdbeaoakcjeaaGreatDoorDVD
import Derived.Test.YtapdbeaoakcjeaaGreatDoorDUP
import Derived.Test.YtapdbeaoakcjeaaGreatDoorDWV
import Derived.Test.YtapdbeaoakcjeaaGreatDoorDUT
set_option maxRecDepth 100000
set_option maxHeartbeats 40000000
open Go.Lib (hid)
namespace Go.Proofs.YtapdbeaoakcjeaaGreatDoor.Se
open Go.RowKit Nmx
inductive WX:Nat→Nat→List Nd→List Int→List Nat→List Int→Prop
 | nil (p:Nat):WX p 0 [] [] [] []
 | cons {p d e:Nat} {x:Nd} {ks rest:List Nd} {ss rs:List Int} {s:Int} {Ek Er:List Nat} {Sk Sr:List Int}:
     WX (p+1) d ks ss Ek Sk→NodeOk x ks ss s→WX (p+1+ks.length) e rest rs Er Sr→WX p (max (d+1) e) (x::(ks++rest)) (s::rs) ((p+1+ks.length)::(Ek++Er)) (s::(Sk++Sr))
theorem WE.ex {p d:Nat} {ts:List Nd} {ss:List Int} {E:List Nat} {S:List Int} (h:WE p d ts ss E S):∃d',d'≤d∧WX p d' ts ss E S:=by
 induction h with
 | nil=>exact ⟨0,aF _,.nil _⟩
 | cons _ hn _ ih1 ih2=>
   obtain ⟨a,ha,h1⟩:=ih1;obtain ⟨b,hb,h2⟩:=ih2;exact ⟨_,by omega,.cons h1 hn h2⟩
theorem WX.we {p d:Nat} {ts:List Nd} {ss:List Int} {E:List Nat} {S:List Int} (h:WX p d ts ss E S):WE p d ts ss E S:=by
 induction h with
 | nil=>exact .nil _ _
 | @cons p d e _ _ _ _ _ _ _ _ _ _ _ hn _ ih1 ih2=>
   obtain ⟨m,hm⟩:∃m,max (d+1) e=m+1:=⟨max (d+1) e-1,by omega⟩
   rw[hm];exact .cons (ih1.mono m (by omega)) hn (ih2.mono (m+1) (by omega))
theorem WX.shift {p d:Nat} {ts:List Nd} {ss:List Int} {E:List Nat} {S:List Int} (h:WX p d ts ss E S):∀p',∃E',WX p' d ts ss E' S:=by
 induction h with
 | nil=>intro p';exact ⟨_,.nil _⟩
 | @cons p _ _ _ ks _ _ _ _ _ _ _ _ _ hn _ ihk ihr=>
   intro p';obtain ⟨F,hF⟩:=ihk (p'+1);obtain ⟨G,hG⟩:=ihr (p'+1+ks.length);exact ⟨_,.cons hF hn hG⟩
theorem sH {i:Nat} {op:List Nat} (h:∀y∈op,i<y):bq i op=op:=by
 unfold bq
 have e:op.reverse.dropWhile (fun x=>decide (x≤i))=op.reverse:=by
  cases hr:op.reverse with
  | nil=>rfl
  | cons y l=>
    have:=h y (List.mem_reverse.1 (by rw[hr];simp));rw[List.dropWhile_cons_of_neg (by simp;omega)]
 rw[e,List.reverse_reverse]
theorem mm {i:Nat} {op:List Nat} {y:Nat} (h:y∈bq i op):y∈op:=by
 unfold bq at h;exact List.mem_reverse.1 ((List.dropWhile_sublist _).subset (List.mem_reverse.1 h))
theorem WX.high {p d:Nat} {ts:List Nd} {ss:List Int} {E:List Nat} {S:List Int} (h:WX p d ts ss E S):∀(Et op:List Nat) (best:Nat),(∀y∈bq p op,p+ts.length≤y)→(bq p op).length≤best→
    ∃op',bg p (E++Et) op best=bg (p+ts.length) Et op' (max best ((bq p op).length+d))∧bq (p+ts.length) op'=bq (p+ts.length) op:=by
 induction h with
 | nil=>intro Et op best _ hb;exact ⟨op,by rw[Nat.add_zero,Nat.max_eq_left hb];rfl,rfl⟩
 | @cons p d e x ks rest ss rs s Ek Er Sk Sr hk hn hr ihk ihr=>
   intro Et op best hy hb;simp only[aq,ay] at hy;have e0:(p+1+ks.length)::(Ek++Er)++Et=(p+1+ks.length)::(Ek++(Er++Et)):=by simp
   rw[e0];simp only[bg]
   have hy1:∀y∈bq (p+1) (bq p op++[p+1+ks.length]),p+1+ks.length≤y:=fun y h=>by
    rcases List.mem_append.1 (mm h) with h | h
    · have:=hy y h;omega
    · rw[List.mem_singleton.1 h];exact af _
   have hl1:(bq (p+1) (bq p op++[p+1+ks.length])).length≤(bq p op).length+1:=aA (jt _ _) (by simp);obtain ⟨o1,a1,a2⟩:=ihk (Er++Et) (bq p op++[p+1+ks.length]) (max best ((bq p op).length+1)) hy1 (by omega);rw[a1]
   have hpop:bq (p+1+ks.length) o1=bq (p+1+ks.length) op:=by
    rw[a2,lX _ _ _ (af _),dD _ _ (by omega)]
   have hsub:bq (p+1+ks.length) op=bq (p+1+ks.length) (bq p op):=(dD _ _ (by omega) _).symm;have hl2:(bq (p+1+ks.length) o1).length≤(bq p op).length:=by rw[hpop,hsub];exact jt _ _
   obtain ⟨o2,c1,c2⟩:=ihr Et o1 (max (max best ((bq p op).length+1)) ((bq (p+1) (bq p op++[p+1+ks.length])).length+d)) (fun y h=>by
    rw[hpop,hsub] at h
    have:=hy y (mm h);omega) (by omega)
   have e1:p+1+ks.length+rest.length=p+(x::(ks++rest)).length:=by simp only[aq,ay];omega
   rw[c1,e1];rw[e1] at c2
   have hm:max (max (max best ((bq p op).length+1)) ((bq (p+1) (bq p op++[p+1+ks.length])).length+d)) ((bq (p+1+ks.length) o1).length+e)=max best ((bq p op).length+max (d+1) e):=by
    have g1:max ((bq p op).length+1) ((bq (p+1) (bq p op++[p+1+ks.length])).length+d)=(bq p op).length+1+d:=by
     cases hk with
     | nil=>omega
     | cons _ _ _=>
       rw[sH (i:=p+1) (op:=bq p op++[_])]
       · simp only[ay,aJ];omega
       · intro y h;simp only[aq,ay] at hy h;rcases List.mem_append.1 h with h | h
         · have:=hy y h;omega
         · have:=List.mem_singleton.1 h;omega
    have g2:(bq (p+1+ks.length) o1).length+e=(bq p op).length+e∨e=0:=by
     cases hr with
     | nil=>exact .inr rfl
     | cons _ _ _=>
       left
       rw[hpop,hsub,sH (i:=p+1+ks.length) (op:=bq p op)];intro y h;simp only[aq] at hy;have:=hy y h;omega
    omega
   rw[hm];refine ⟨o2,rfl,?_⟩;rw[c2,←dD _ (p+1+ks.length) (by simp only[aq,ay];omega) o1,hpop,dD _ _ (by simp only[aq,ay];omega)]
theorem WX.hgt {d:Nat} {ts:List Nd} {ss:List Int} {E:List Nat} {S:List Int} (h:WX 0 d ts ss E S):bg 0 E [] 0=d:=by
 obtain ⟨o,h1,-⟩:=h.high [] [] 0 (fun y h=>by cases mm h) (af _);rw[List.append_nil] at h1;rw[h1];simp only[bg];have:(bq 0 []).length=0:=rfl
 omega
theorem un (L:List (List Nd×Int×Int)):∀a:Int,0≤a→L.foldl (fun d t=>max d t.2.1) a=max a (dpL L):=by
 unfold dpL
 induction L with
 | nil=>intro a ha;simp only[List.foldl_nil];omega
 | cons k L ih=>
   intro a ha;simp only[List.foldl_cons];rw[ih (max a k.2.1) (by omega),ih (max 0 k.2.1) (by omega)]
   omega
theorem qn (k:List Nd×Int×Int) (L:List (List Nd×Int×Int)):dpL (k::L)=max (max 0 k.2.1) (dpL L):=by
 have:=un L (max 0 k.2.1) (by omega);unfold dpL at this ⊢;rw[List.foldl_cons];exact this
theorem WX.split {p d:Nat} {ts:List Nd} {ss:List Int} {E:List Nat} {S:List Int} (h:WX p d ts ss E S):∃L:List (List Nd×Int×Int),ts=(L.map (·.1)).flatten∧ss=L.map (·.2.2)∧dpL L=d∧∀k∈L,∃dk:Nat,k.2.1=dk∧∃E S,WX 0 dk k.1 [k.2.2] E S:=by
 induction h with
 | nil=>exact ⟨[],rfl,rfl,rfl,fun k h=>by cases h⟩
 | @cons p d e x ks rest ss rs s Ek Er Sk Sr hk hn hr ihk ihr=>
   obtain ⟨L,h1,h2,h3,h4⟩:=ihr;refine ⟨(x::ks,((d+1:Nat):Int),s)::L,by simp[h1],by simp[h2],by rw[qn,h3];show max (max (0:Int) ((d+1:Nat):Int)) (e:Int)=((max (d+1) e:Nat):Int);omega,fun k hk'=>?_⟩;rcases List.mem_cons.1 hk' with rfl | hk'
   · obtain ⟨F,hF⟩:=hk.shift 1;have:=WX.cons (p:=0) hF hn (.nil _);rw[List.append_nil,Nat.max_zero] at this;exact ⟨d+1,rfl,_,_,this⟩
   · exact h4 k hk'
theorem WX.kids {d:Nat} {ts:List Nd} {s:Int} {E:List Nat} {S:List Int} (h:WX 0 d ts [s] E S):∃(x:Nd) (L:List (List Nd×Int×Int)),ts=x::(L.map (·.1)).flatten∧NodeOk x (L.map (·.1)).flatten (L.map (·.2.2)) s∧dpL L+1=d∧∀k∈L,∃dk:Nat,k.2.1=dk∧∃E S,WX 0 dk k.1 [k.2.2] E S:=by
 cases h with
 | cons hk hn hr=>
   cases hr with
   | nil=>
     obtain ⟨L,h1,h2,h3,h4⟩:=hk.split;refine ⟨_,L,by rw[List.append_nil,h1],by rw[←h1,←h2];exact hn,by rw[h3];omega,h4⟩
end Go.Proofs.YtapdbeaoakcjeaaGreatDoor.Se
/- End and Kids of package tree. -/
namespace Go.Proofs.YtapdbeaoakcjeaaGreatDoor.Se
open Go.RowKit Nmx
def fR (l:List Nd):Int:=(l.map fun x=>x.kids-1).sum
theorem ke (x:Nd) (l:List Nd):fR (x::l)=x.kids-1+fR l:=by unfold fR;rw[List.map_cons,List.sum_cons]
theorem mn (a b:List Nd):fR (a++b)=fR a+fR b:=by unfold fR;rw[List.map_append,List.sum_append]
theorem WX.sum {p d:Nat} {ts:List Nd} {ss:List Int} {E:List Nat} {S:List Int} (h:WX p d ts ss E S):fR ts= -(ss.length:Int)∧∀m,m<ts.length→1≤(ss.length:Int)+fR (ts.take m):=by
 induction h with
 | nil=>exact ⟨rfl,fun m h=>absurd h (Nat.not_lt_zero m)⟩
 | @cons p d e x ks rest ss rs s Ek Er Sk Sr hk hn hr ihk ihr=>
   obtain ⟨a1,a2⟩:=ihk;obtain ⟨b1,b2⟩:=ihr;have hx:=hn.kn;refine ⟨by rw[ke,mn,a1,b1,hx,aq];omega,fun m hm=>?_⟩;rw[aq];cases m with
   | zero=>rw[List.take_zero];show 1≤((rs.length+1:Nat):Int)+0;omega
   | succ m=>
     rw[List.take_succ_cons,ke,List.take_append,mn,hx];simp only[aq,ay] at hm
     by_cases hlt:m<ks.length
     · have:=a2 m hlt;rw[show m-ks.length=0 by omega,List.take_zero];have h0:fR []=0:=rfl
       omega
     · have h1:=b2 (m-ks.length) (by omega);rw[aI (by omega:ks.length≤m),a1]
       omega
theorem uo {ts:List Nd} {i q:Nat} {x:Nd} (h:ts[i+q]? =some x):fR ((ts.drop i).take (q+1))=fR ((ts.drop i).take q)+x.kids-1:=by
 rw[List.take_add_one,mn,List.getElem?_drop,h];show _+fR [x]=_;rw[ke];have h0:fR []=0:=rfl
 omega
section
theorem qo (g cap n i m:Nat) (ts:List Nd) (w:World) (hn:ts.length=n) (hmx:n≤1000000) (hc:NodesAt w g ts) (hi:i+m≤n) (hs:fR ((ts.drop i).take m)= -1) (hp:∀j,j<m→0≤fR ((ts.drop i).take j)) (hk:∀x∈ts,x.kids≤1000000):
    Calls Tryz.prog 72 #[.slice (some ⟨g,0,none⟩) n cap,.int .i64 i] w fun e w'=>e=.returned (.int .i64 ((i+m:Nat):Int))∧w=w':=by
 have HC:=hid hc;have HN:=hid hn;have HS:=hid hs;have HP:=hid hp;have HK:=hid hk;have h0:fR ((ts.drop i).take 0)=0:=rfl;have H0:=hid h0;clear hc hn hs hp hk h0
 go_enter Tryz.func72,Tryz.ntmps72
 go_wp2
 go_loop [1,5] (fun iv ov=>∃(q:Nat) (o:Int),q≤m∧iv=.int .i64 ((i+q:Nat):Int)∧ov=.int .i64 o∧o=1+fR ((ts.drop i).take q)∧o≤1+q*1000000) (fun iv _=>i+m-(intOf iv).toNat)
 case atStart=>exact ⟨0,1,aF _,rfl,rfl,by rw[H0.out];rfl,by omega⟩
 case round=>
  obtain ⟨q,o,hq,rfl,rfl,ho,hb⟩:=hrel;have HO:=hid ho;clear ho
  by_cases hlt:q<m
  · have hpos:0<o:=by rw[HO.out];have:=HP.out q hlt;omega
    obtain ⟨x,hx⟩:∃x,ts[i+q]? =some x:=⟨_,ap (by rw[HN.out];omega)⟩
    have hcell:w.cell? ⟨g,(i+q)*5+4,none⟩=some (.int .i64 x.kids):=HC.out (i+q) x hx 4 (by omega);have hxk:=HK.out x (List.mem_of_getElem? hx);have HNX:=hid (uo hx)
    have hlow:0≤o+x.kids:=by
     by_cases hq1:q+1<m
     · have:=HP.out (q+1) hq1;rw[HNX.out] at this;rw[HO.out];omega
     · have:=HS.out;rw[show m=q+1 by omega,HNX.out] at this;rw[HO.out];omega
    clear hx;generalize x.kids=kx at *;obtain ⟨p,hpq⟩:∃p,i+q=p:=⟨_,rfl⟩
    have hp1:p<n:=by omega
    rw[hpq] at hcell ⊢;have HPQ:=hid hpq;clear hpq
    go_wp2
    go_round
    case rel=>exact ⟨q+1,o+(kx-1),by omega,by have:=HPQ.out;congr 1;omega,by go_num,by rw[HO.out,HNX.out];omega,by omega⟩
    case measure=>have:=HPQ.out;simp[intOf];omega
  · have hz:o=0:=by rw[HO.out,show q=m by omega,HS.out];rfl
    obtain rfl:q=m:=by omega
    subst hz;clear HO
    go_wp2
    go_ret
    exact ⟨rfl,rfl⟩
end
end Go.Proofs.YtapdbeaoakcjeaaGreatDoor.Se
/- Kids of package tree. -/
namespace Go.Proofs.YtapdbeaoakcjeaaGreatDoor.Se
open Go.RowKit Nmx
def sI (l:List Nd):Prop:=fR l= -1∧∀j,j<l.length→0≤fR (l.take j)
theorem WX.kidOk {d:Nat} {l:List Nd} {s:Int} {E:List Nat} {S:List Int} (h:WX 0 d l [s] E S):sI l:=by
 obtain ⟨h1,h2⟩:=h.sum;refine ⟨by rw[h1];rfl,fun j hj=>?_⟩;have:=h2 j hj;rw[aJ] at this
 omega
def cD (g:Nat):Nat→List (List Nd)→List Value
 | _,[]=>[]
 | o,l::L=>.slice (some ⟨g,o*5,none⟩) l.length l.length::cD g (o+l.length) L
theorem kB (g:Nat):∀(L:List (List Nd)) (o:Nat),(cD g o L).length=L.length
 | [],_=>rfl
 | l::L,o=>by rw[cD,aq,kB g L,aq]
theorem jI (g:Nat) (l:List Nd):∀(L:List (List Nd)) (o:Nat),cD g o (L++[l])=cD g o L++[.slice (some ⟨g,(o+L.flatten.length)*5,none⟩) l.length l.length]
 | [],o=>rfl
 | m::L,o=>by
   rw[List.cons_append,cD,cD,jI g l L,List.cons_append,List.flatten_cons,ay,Nat.add_assoc]
theorem mE {x:Nd} {L:List (List Nd)} {j:Nat} (h:j<L.length):((x::L.flatten).drop (1+(L.take j).flatten.length)).take L[j].length=L[j]:=by
 have e:L.flatten=(L.take j).flatten++(L[j]++(L.drop (j+1)).flatten):=by
  rw[←List.flatten_cons,←List.drop_eq_getElem_cons h,←List.flatten_append,List.take_append_drop]
 rw[Nat.add_comm,List.drop_succ_cons,e,List.drop_left,List.take_left]
theorem sJ:(Tryz.prog.info? 22).map (fun i=>(i.zero,i.size,i.bytes))=some (some (.slice none 0 0),1,24):=by kernel_rfl
theorem xO (n:Nat) (hn:n≤1000000) (W:World):
    (Instr.makeSlice 29 (.int .i64 0) (.int .i64 n)).run Tryz.prog W=.ok (.slice (some ⟨W.heap.size,0,none⟩) 0 n) (W.alloc (.cells (madeCells #[.slice none 0 0] n) 22)):=by
 obtain ⟨i0,hi,hz0,hz1,hz2⟩:=info_parts sJ;have hr:=run_make (P:=Tryz.prog) W 29 22 i0 _ Tryz.underlying29 hi hz0 .i64 .i64 0 n (by omega) (by omega) (by rw[hz2];omega) (by omega);rw[hz1,Int.toNat_natCast,Nat.mul_one] at hr;exact hr
theorem uq (w:World) (n:Nat) (hn:n≤1000000):(w.alloc (.cells (madeCells #[.slice none 0 0] n) 22)).ownsRow w.heap.size 22 1 (.slice (some ⟨w.heap.size,0,none⟩) 0 n) 0 []:=
 World.ownsRow_made w _ n (af _) (by unfold maxLen;omega) (by rw[size_madeCells,Nat.mul_one])
section
theorem oN (g cap:Nat) (x:Nd) (L:List (List Nd)) (w:World) (hn:1+L.flatten.length≤20000) (hLm:L.length≤20000) (hx:x.kids=L.length) (hc:NodesAt w g (x::L.flatten)) (hg:g<w.heap.size) (hcap:1+L.flatten.length≤cap)
    (hL:∀l∈L,sI l) (hk:∀y∈x::L.flatten,y.kids≤1000000):
    Calls Tryz.prog 37 #[.slice (some ⟨g,0,none⟩) (1+L.flatten.length) cap] w fun e w'=>∃v,e=.returned v∧w'.ownsRow w.heap.size 22 1 v L.length (cD g 1 L)∧Below w.heap.size w w':=by
 obtain ⟨i0,hi,hz0,hz1,hz2⟩:=info_parts sJ;have hmk:=xO L.length (by omega)
 have c0:w.cell? ⟨g,4,none⟩=some (.int .i64 L.length):=by
  have:=hc 0 x rfl 4 (by omega);rw[show (0*5+4:Nat)=4 by rfl] at this;rw[this];show some (Value.int .i64 x.kids)=_;rw[hx]
 have hrow:=uq w L.length (by omega);have hA:=aD w (.cells (madeCells #[.slice none 0 0] L.length) 22);have hlen:(x::L.flatten).length=1+L.flatten.length:=by rw[aq,Nat.add_comm]
 have HC:=hid hc;have HL:=hid hL;have HK:=hid hk;have HLEN:=hid hlen;have HROW:=hid hrow;have HA:=hid hA;have c0':=(hA.cell (p:=⟨g,4,none⟩) hg).trans c0;obtain ⟨N,hN⟩:∃N,1+L.flatten.length=N:=⟨_,rfl⟩
 have HN:=hid hN;rw[hN] at hn hcap HLEN ⊢;obtain ⟨n,hnL⟩:∃n,L.length=n:=⟨_,rfl⟩
 have HNL:=hid hnL;rw[hnL] at hLm hmk c0 c0' HROW HA ⊢;have hpos:0<N:=by omega
 clear hc hx hL hk hlen hN hnL hrow hA
 go_enter Tryz.func37,Tryz.ntmps37
 go_wp2
 generalize hw1:w.alloc (.cells (madeCells #[.slice none 0 0] n) 22)=w1 at *;generalize hB:w.heap.size=B at *;have HBe:=hid hB;clear hmk hw1 hB
 go_loopw [3,4,15] (fun lv av kv wr=>∃j:Nat,j≤n∧kv=.int .i64 j∧av=.int .i64 ((1+(L.take j).flatten.length:Nat):Int)∧wr.ownsRow B 22 1 lv j (cD g 1 (L.take j))∧Below B w wr) (fun _ _ kv _=>n-(intOf kv).toNat)
 case atStart=>exact ⟨0,aF _,rfl,rfl,HROW.out,HA.out⟩
 case round=>
  obtain ⟨j,hj,rfl,rfl,hown,hbel⟩:=hrel;have HO:=hid hown;have HB:=hid hbel;have hbs:B≤wr.heap.size:=by have:=hbel.size;have:=HBe.out;omega
  clear hown hbel
  by_cases hlt:j<n
  · have hjL:j<L.length:=by rw[HNL.out];exact hlt
    have hkd:=HL.out L[j] (List.getElem_mem hjL);have htd:=mE (x:=x) hjL;have hfl:(L.take (j+1)).flatten.length=(L.take j).flatten.length+L[j].length:=by rw[eE hjL,ay]
    have hle:(L.take (j+1)).flatten.length≤L.flatten.length:=by
     rw[show L.flatten=(L.take (j+1)).flatten++(L.drop (j+1)).flatten by rw[←List.flatten_append,List.take_append_drop],ay];omega
    have hend:=qo g cap N (1+(L.take j).flatten.length) L[j].length (x::L.flatten) wr HLEN.out (by omega) (HC.out.below HB.out hg) (by have:=HN.out;omega) (by rw[htd];exact hkd.1)
     (fun q hq=>by
       have:=hkd.2 q hq;rw[←htd,List.take_take,Nat.min_eq_left (aG hq)] at this
       exact this) HK.out
    have HSN:Hid (cD g 1 (L.take (j+1))=cD g 1 (L.take j)++[.slice (some ⟨g,(1+(L.take j).flatten.length)*5,none⟩) L[j].length L[j].length]):=hid (by
     rw[List.take_add_one,ap hjL];exact jI g _ _ _)
    have HFL:Hid (1+(L.take (j+1)).flatten.length=1+(L.take j).flatten.length+L[j].length):=hid (by omega);have hcap2:1+(L.take j).flatten.length+L[j].length≤cap:=by have:=HN.out;omega
    have hm0:0<L[j].length:=by
     rcases Nat.eq_zero_or_pos L[j].length with h | h
     · have:=hkd.1;rw[List.length_eq_zero_iff.1 h] at this;cases this
     · exact h
    clear hkd htd hfl hle;generalize L[j].length=m at *;generalize 1+(L.take j).flatten.length=a at *;generalize cD g 1 (L.take j)=vs at *
    go_wp2_with fail
    refine hend.mono ?_;rintro e w2 ⟨rfl,rfl⟩;clear hend
    go_wp2_with (at_builtin;go_loud (refine wpList_append_own _ rfl _ _ 29 rfl B 22 i0 _ 1 24 Tryz.underlying29 hi hz0 hz1 hz2 rfl (by decide) _ j vs rfl (HO.out.alloc _) ⟨wr.heap.size,0,none⟩ 1 1 [.slice (some ⟨g,a*5,none⟩) m m] rfl rfl (World.news_of_block (cs:=#[.slice (some ⟨g,a*5,none⟩) m m]) (t:=22) (fr:=(0,0)) (heap_alloc_new wr _)) (by simp[Value.oneCell']) (by unfold maxLen;omega) (by omega) (by simp;omega) ?_))
    intro v' w4 hown' hgrow _;have HO4:=hid hown';have HB4:=hid ((HB.out.alloc hbs _).grown hgrow (by simp;omega) (fun q hq=>(HO.out.lt q hq).1));clear hown' hgrow
    go_wp2
    go_roundw
    case rel=>exact ⟨j+1,by omega,by go_num,by rw[HFL.out,Int.natCast_add],by rw[HSN.out];exact HO4.out,HB4.out⟩
    case measure=>simp[intOf];omega
  · obtain rfl:j=n:=by omega
    have hall:L.take j=L:=aI (by rw[HNL.out];exact af _);rw[hall] at HO
    go_wp2
    go_ret
    exact ⟨_,rfl,by rw[HBe.out];exact HO.out,by rw[HBe.out];exact HB.out⟩
end
end Go.Proofs.YtapdbeaoakcjeaaGreatDoor.Se
namespace Go.Proofs.YtapdbeaoakcjeaaGreatDoor.Se
open Go.RowKit Nmx
theorem xP (g o q:Nat):(⟨g,o,none⟩:Addr).add q=⟨g,o+q,none⟩:=by
 unfold Addr.add
 split
 · rename_i h;rw[h,Nat.add_zero]
 · rfl
section
theorem kR (g o n c:Nat) (ts:List Nd) (w:World) (hn:ts.length=n) (h0:0<n) (hm:n≤1000000) (hN:∀(j:Nat) (u:Value),(br ts)[j]? =some u→w.cell? ⟨g,o+j,none⟩=some u) (hg:g<w.heap.size):
    Calls Tryz.prog 38 #[.slice (some ⟨g,o,none⟩) n c] w fun e w'=>∃g' c',e=.returned (.slice (some ⟨g',0,none⟩) n c')∧NodesAt w' g' ts∧g'<w'.heap.size∧w.heap.size≤g'∧Below w.heap.size w w':=by
 obtain ⟨i0,hi,hz0,hz1,hz2⟩:=info_parts jC;have HN:=hid hN;have HL:=hid hn;have HFL:Hid ((br ts).length=n*5):=hid (by rw[d5,hn]);have HON:=hid (mc ts);clear hN hn;have hq:∀w':World,(binOp .eql 22 (.slice (some ⟨g,o,none⟩) n c) (.slice none 0 0)).run Tryz.prog w'=.ok (.bool false) w':=fun w'=>Lib.run_eql_slice_nil w' _ _ (some ⟨g,o,none⟩) n c 0 0 Tryz.underlying22
 go_enter Tryz.func38,Tryz.ntmps38
 have hown:(w.alloc (.cells #[] 34)).ownsRow w.heap.size 34 5 (.slice (some ⟨w.heap.size,0,none⟩) 0 0) 0 []:=⟨rfl,.inr ⟨w.heap.size,0,#[],rfl,af _,heap_alloc_new w _,af _,by unfold maxLen;omega,rfl,rfl⟩⟩
 have hgw:∀q,(w.alloc (.cells #[] 34)).cell? ⟨g,q,none⟩=w.cell? ⟨g,q,none⟩:=fun q=>(aD w _).cell (p:=⟨g,q,none⟩) hg
 have HOW:=hid hown;have HGW:=hid hgw;clear hown hgw
 go_wp2_with (at_builtin;go_loud (refine wpList_append_own _ rfl _ _ 22 rfl w.heap.size 34 i0 _ 5 56 Tryz.underlying22 hi hz0 hz1 hz2 rfl (by decide) (.slice (some ⟨w.heap.size,0,none⟩) 0 0) 0 [] rfl HOW.out ⟨g,o,none⟩ n c (br ts) rfl HFL.out (fun q u hq=>by rw[xP];exact (HGW.out _).trans (HN.out q u hq)) HON.out (by unfold maxLen;omega) (by omega) (by simp) ?_))
 intro v' w4 hrow hgr hnil0;have hb:Below w.heap.size w w4:=(aD w _).grown hgr (by simp) (fun k e=>by have e':w.heap.size=k:=aH e;omega)
 obtain ⟨B',c',hv'⟩:∃B' c',v'=.slice (some ⟨B',0,none⟩) n c':=by
  obtain ⟨_,h1 | ⟨g,cap,cur,hv,_⟩⟩:=id hrow
  · exact absurd h1.2 (by omega)
  · exact ⟨g,cap,hv⟩
 subst hv';have HRW:=hid hrow;have HB:=hid hb;clear hrow hgr hnil0 hb
 go_wp2
 go_ret
 exact ⟨B',c',rfl,eZ (fun q hq=>HRW.out.cellAt q (by rw[HL.out] at hq;exact hq)),(HRW.out.lt B' rfl).2,(HRW.out.lt B' rfl).1,HB.out⟩
end
def KidsN (S:Nat) (w:World) (ak:Option Addr) (gk:Nat) (L:List (List Nd)):Prop:=
 (L.length≠0→ak=some ⟨gk,0,none⟩)∧gk<w.heap.size∧∀j t,L[j]? =some t→∃g c,w.cell? ⟨gk,j,none⟩=some (.slice (some ⟨g,0,none⟩) t.length c)∧NodesAt w g t∧g<w.heap.size∧S≤g
theorem KidsN.kds {S:Nat} {w:World} {ak:Option Addr} {gk:Nat} {L:List (List Nd)} (h:KidsN S w ak gk L):Kds w ak gk L:=
 ⟨h.1,h.2.1,fun j t ht=>let ⟨g,c,h1,h2,h3,_⟩:=h.2.2 j t ht;⟨g,c,h1,h2,h3⟩⟩
theorem KidsN.far {S:Nat} {w w':World} {ak:Option Addr} {gk:Nat} {L:List (List Nd)} (h:KidsN S w ak gk L) (hb:Below w.heap.size w w'):KidsN S w' ak gk L:=
 ⟨h.1,am h.2.1 hb.size,fun j t ht=>let ⟨g,c,h1,h2,h3,h4⟩:=h.2.2 j t ht;⟨g,c,(hb.cell (p:=⟨gk,j,none⟩) h.2.1).trans h1,h2.below hb h3,am h3 hb.size,h4⟩⟩
def jJ (w:World) (L:List (List Nd)) (e:Ending) (w':World):Prop:=
 ∃ak gk ck,e=.returned (.slice ak L.length ck)∧KidsN w.heap.size w' ak gk L∧Below w.heap.size w w'
structure KL (S g0:Nat) (w:World) (L:List (List Nd)) (B cp:Nat) (i:Nat) (W:World):Prop where
 row:∃xs:List Value,xs.length=L.length∧(∀q t,q<i→L[q]? =some t→∃g c,xs[q]? =some (.slice (some ⟨g,0,none⟩) t.length c)∧NodesAt W g t∧g<W.heap.size∧S≤g∧g≠B)∧(∀q,i≤q→xs[q]? =(cD g0 1 L)[q]?)∧
  W.ownsRow S 22 1 (.slice (some ⟨B,0,none⟩) L.length cp) L.length xs
 bel:Below S w W
theorem KL.lt {S g0:Nat} {w:World} {L:List (List Nd)} {B cp i:Nat} {W:World} (h:KL S g0 w L B cp i W):S≤B∧B<W.heap.size:=by
 obtain ⟨_,_,_,_,h4⟩:=h.row;exact h4.lt B rfl
theorem KL.far {S g0:Nat} {w:World} {L:List (List Nd)} {B cp i:Nat} {W W':World} (h:KL S g0 w L B cp i W) (hb:Below W.heap.size W W'):KL S g0 w L B cp i W':=by
 obtain ⟨xs,h1,h2,h3,h4⟩:=h.row;refine ⟨⟨xs,h1,fun q t hq ht=>?_,h3,bj h4 hb (fun g hg=>(h4.lt g hg).2)⟩,h.bel.trans (hb.mono (aA h.lt.1 (aG h.lt.2)))⟩;obtain ⟨g,c,k1,k2,k3,k4,k5⟩:=h2 q t hq ht;exact ⟨g,c,k1,k2.below hb k3,am k3 hb.size,k4,k5⟩
theorem KL.cell {S g0:Nat} {w:World} {L:List (List Nd)} {B cp i:Nat} {W:World} (h:KL S g0 w L B cp i W) (hi:i<L.length):W.cell? ⟨B,i,none⟩=(cD g0 1 L)[i]? ∧(∃u,W.cell? ⟨B,i,none⟩=some u)∧W.frozen? ⟨B,i,none⟩=false:=by
 obtain ⟨xs,h1,h2,h3,h4⟩:=h.row;have hc:=h4.cellAt i (by omega);exact ⟨by rw[hc,h3 i (af _)],⟨_,hc.trans (ap (by omega))⟩,h4.frozenAt i⟩
theorem KL.set {S g0:Nat} {w:World} {L:List (List Nd)} {B cp i:Nat} {W:World} (h:KL S g0 w L B cp i W) {t:List Nd} (ht:L[i]? =some t) {g c:Nat} (hN:NodesAt W g t) (hg:g<W.heap.size) (hS:S≤g) (hB:g≠B):KL S g0 w L B cp (i+1) (W.setCell ⟨B,i,none⟩ (.slice (some ⟨g,0,none⟩) t.length c)):=by
 obtain ⟨xs,h1,h2,h3,h4⟩:=h.row;have hi:i<L.length:=(List.getElem?_eq_some_iff.1 ht).1;have hst:∀(g':Nat) (t':List Nd),NodesAt W g' t'→g'≠B→NodesAt (W.setCell ⟨B,i,none⟩ (.slice (some ⟨g,0,none⟩) t.length c)) g' t':=fun g' t' hN' hne q x hx j hj=>(World.cell?_of_block (aB _ _ _ _ (by show g'≠B;exact hne))).trans (hN' q x hx j hj)
 refine ⟨⟨xs.set i (.slice (some ⟨g,0,none⟩) t.length c),by rw[aL];exact h1,fun q u hq hu=>?_,fun q hq=>?_,(h4.stored i _).1⟩,h.bel.setCell (show S≤B from h.lt.1) _⟩
 · by_cases hqi:q=i
   · subst hqi;obtain rfl:t=u:=aH (ht.symm.trans hu);exact ⟨g,c,by rw[List.getElem?_set_self (by omega)],hst g t hN hB,by simpa using hg,hS,hB⟩
   · obtain ⟨g',c',k1,k2,k3,k4,k5⟩:=h2 q u (by omega) hu;exact ⟨g',c',by rw[List.getElem?_set_ne (fun e=>hqi e.symm)];exact k1,hst g' u k2 k5,by simpa using k3,k4,k5⟩
 · rw[List.getElem?_set_ne (by omega)];exact h3 q (by omega)
theorem KL.fin {S g0:Nat} {w:World} {L:List (List Nd)} {B cp:Nat} {W:World} (h:KL S g0 w L B cp L.length W):KidsN S W (some ⟨B,0,none⟩) B L:=by
 obtain ⟨xs,h1,h2,h3,h4⟩:=h.row;refine ⟨fun _=>rfl,h.lt.2,fun j t ht=>?_⟩;have hj:j<L.length:=(List.getElem?_eq_some_iff.1 ht).1;obtain ⟨g,c,k1,k2,k3,k4,-⟩:=h2 j t hj ht;exact ⟨g,c,(h4.cellAt j (by omega)).trans k1,k2,k3,k4⟩
theorem kC (g:Nat):∀(L:List (List Nd)) (o j:Nat) (t:List Nd),L[j]? =some t→(cD g o L)[j]? =some (.slice (some ⟨g,(o+(L.take j).flatten.length)*5,none⟩) t.length t.length)
 | [],_,_,_,h=>by cases h
 | l::L,o,0,t,h=>by cases h;rfl
 | l::L,o,j+1,t,h=>by
   rw[List.getElem?_cons_succ] at h;rw[cD,List.getElem?_cons_succ,kC g L _ j t h,List.take_succ_cons,List.flatten_cons,ay,Nat.add_assoc]
theorem ur {w:World} {g:Nat} {x:Nd} {L:List (List Nd)} (hc:NodesAt w g (x::L.flatten)) {j:Nat} {t:List Nd} (ht:L[j]? =some t):∀(q:Nat) (u:Value),(br t)[q]? =some u→w.cell? ⟨g,(1+(L.take j).flatten.length)*5+q,none⟩=some u:=fun q u hq=>by
 obtain ⟨hj,rfl⟩:=List.getElem?_eq_some_iff.1 ht;have hl:q<L[j].length*5:=by rw[←d5];exact (List.getElem?_eq_some_iff.1 hq).1
 refine gn hc _ u ?_
 have e:x::L.flatten=(x::(L.take j).flatten)++(L[j]++(L.drop (j+1)).flatten):=by
  rw[List.cons_append,←List.flatten_cons,←List.drop_eq_getElem_cons hj,←List.flatten_append,List.take_append_drop]
 have hf:∀a b:List Nd,br (a++b)=br a++br b:=fun a b=>by unfold br;exact List.flatMap_append
 have hla:(br (x::(L.take j).flatten)).length=(1+(L.take j).flatten.length)*5:=by rw[d5,aq,Nat.add_comm]
 rw[e,hf,hf,List.getElem?_append_right (by omega),hla,Nat.add_sub_cancel_left,List.getElem?_append_left (by rw[d5];exact hl)];exact hq
section
theorem oO (g cap:Nat) (x:Nd) (L:List (List Nd)) (w:World) (hn:1+L.flatten.length≤20000) (hLm:L.length≤20000) (hx:x.kids=L.length) (hc:NodesAt w g (x::L.flatten)) (hg:g<w.heap.size) (hcap:1+L.flatten.length≤cap)
    (hL:∀l∈L,sI l) (hk:∀y∈x::L.flatten,y.kids≤1000000)
    (hv:Calls Tryz.prog 13 #[.slice (some ⟨g,0,none⟩) (1+L.flatten.length) cap] w fun e w'=>e=.returned (.bool true)∧Below w.heap.size w w'):
    Calls Tryz.prog 12 #[.slice (some ⟨g,0,none⟩) (1+L.flatten.length) cap] w (jJ w L):=by
 have HC:=hid hc;have HL:=hid hL;have HKK:=hid fun W (hW:Below w.heap.size w W)=>oN g cap x L W hn hLm hx (hc.below hW hg) (am hg hW.size) hcap hL hk
 clear hc hL hk hx;obtain ⟨N,hN⟩:∃N,1+L.flatten.length=N:=⟨_,rfl⟩
 have HN:=hid hN;rw[hN] at hn hcap hv HKK ⊢;clear hN
 go_enter Tryz.func12,Tryz.ntmps12
 go_wp2_with fail
 refine hv.mono ?_;rintro e w1 ⟨rfl,hb1⟩;have hkk:=HKK.out w1 hb1;have HB1:=hid hb1;clear hb1 hv HKK
 go_wp2_with fail
 refine hkk.mono ?_;rintro e w2 ⟨v,rfl,hrow,hb2⟩;have hB2:=HB1.out.trans (hb2.mono HB1.out.size);have hs1:=HB1.out.size;have hs2:=hb2.size
 by_cases h0:L.length=0
 · obtain ⟨ak,ck,hv⟩:∃ak ck,v=.slice ak 0 ck:=by
     rw[h0] at hrow;obtain ⟨_,h1 | ⟨g,cap,cur,hv,_⟩⟩:=hrow
     · exact ⟨none,0,h1.1⟩
     · exact ⟨_,cap,hv⟩
   subst hv;have HB:=hid hB2;have H0:=hid h0;have HFIN:Hid (jJ w L (.returned (.slice ak 0 ck)) w2):=hid ⟨ak,0,ck,by rw[H0.out],⟨fun h=>absurd H0.out h,by omega,fun j t ht=>by rw[List.length_eq_zero_iff.1 H0.out] at ht;cases ht⟩,HB.out⟩;clear hrow hb2 hB2 h0 hkk
   go_wp2
   go_loop [12] (fun i=>i=.int .i64 0) (fun _=>0)
   case atStart=>rfl
   case round=>
    obtain rfl:=hrel
    go_wp2
    go_ret
    exact HFIN.out
 · obtain ⟨B,cp,hv,hbB,hcp1,hcp2⟩:=aZ hrow (by omega);subst hv;have hkl:KL w1.heap.size g w1 L B cp 0 w2:=⟨⟨cD g 1 L,kB g L 1,fun q t hq=>absurd hq (Nat.not_lt_zero q),fun _ _=>rfl,hrow⟩,hb2⟩
   have HKL:=hid hkl;have hgw1:g<w1.heap.size:=am hg hs1;have HC1:=hid (HC.out.below HB1.out hg);obtain ⟨n,hnL⟩:∃n,L.length=n:=⟨_,rfl⟩
   have HNL:=hid hnL;rw[hnL] at hLm hcp1 ⊢;clear hkl hrow hb2 hB2 hkk h0 hnL hs2;generalize hS:w1.heap.size=S at *;have HSe:=hid hS;clear hS
   go_wp2
   go_loopw [12] (fun i wr=>∃j:Nat,j≤n∧i=.int .i64 j∧KL S g w1 L B cp j wr) (fun i _=>n-(intOf i).toNat)
   case atStart=>exact ⟨0,aF _,rfl,HKL.out⟩
   case round=>
    obtain ⟨j,hj,rfl,hkl⟩:=hrel;have HK:=hid hkl;clear hkl
    by_cases hlt:j<n
    · have hjL:j<L.length:=by rw[HNL.out];exact hlt
      have hlj:L[j]? =some L[j]:=ap hjL;obtain ⟨hcl,-,-⟩:=HK.out.cell hjL;rw[kC g L 1 j L[j] hlj] at hcl
      have hpos:0<L[j].length:=by
       rcases Nat.eq_zero_or_pos L[j].length with h | h
       · have:=(HL.out L[j] (List.getElem_mem hjL)).1;rw[List.length_eq_zero_iff.1 h] at this;cases this
       · exact h
      have hfl:L[j].length≤L.flatten.length:=by
       rw[show L.flatten=(L.take j).flatten++(L[j]++(L.drop (j+1)).flatten) by rw[←List.flatten_cons,←List.drop_eq_getElem_cons hjL,←List.flatten_append,List.take_append_drop],ay,ay];omega
      have hgr:g<wr.heap.size:=am (by rw[HSe.out];exact hgw1) HK.out.bel.size;have hcln:=kR g ((1+(L.take j).flatten.length)*5) L[j].length L[j].length L[j] wr rfl hpos (by have:=HN.out;omega) (ur (HC1.out.below HK.out.bel hgw1) hlj) hgr;obtain ⟨m,hm⟩:∃m,L[j].length=m:=⟨_,rfl⟩
      have HM:=hid hm;rw[hm] at hcl hcln;clear hm hfl hpos;generalize (1+(L.take j).flatten.length)*5=o at *
      go_wp2_with fail
      refine hcln.mono ?_;rintro e w4 ⟨g',c',rfl,hN,hgl,hge,hb4⟩;have hgB:g'≠B:=by have:=HK.out.lt.2;omega
      have hK4:=HK.out.far hb4;obtain ⟨-,⟨u,hu⟩,hfz⟩:=hK4.cell hjL;have HK5:=hid (hK4.set (c:=c') hlj hN hgl (aA (aA HK.out.lt.1 (aG HK.out.lt.2)) hge) hgB);rw[HM.out] at HK5;clear hN hb4 hK4 hcln HK hcl
      go_wp2
      go_roundw
      case rel=>exact ⟨j+1,by omega,by go_num,HK5.out⟩
      case measure=>simp[intOf];omega
    · obtain rfl:j=n:=by omega
      have hfin:=HK.out;rw[←HNL.out] at hfin
      have HFIN:Hid (jJ w L (.returned (.slice (some ⟨B,0,none⟩) L.length cp)) wr):=hid ⟨_,B,cp,rfl,(by
       obtain ⟨k1,k2,k3⟩:=hfin.fin
       exact ⟨k1,k2,fun q t ht=>let ⟨g',c',m1,m2,m3,m4⟩:=k3 q t ht;⟨g',c',m1,m2,m3,by have:=HSe.out;omega⟩⟩),HB1.out.trans (hfin.bel.mono (by have:=HSe.out;omega))⟩
      rw[HNL.out] at HFIN;clear hfin HK
      go_wp2
      go_ret
      exact HFIN.out
end
end Go.Proofs.YtapdbeaoakcjeaaGreatDoor.Se
/- What with hands back is a term; its children. -/
namespace Go.Proofs.YtapdbeaoakcjeaaGreatDoor.Se
open Go.RowKit Nmx
theorem yQ {x:Nd} {ks:List Nd} (h5:x.op=5) (hn:Nm vs8 ks) (hx:bp x.name vs8=none) (E:List Nat) (S:List Int):naF (x::ks) E S=true:=by
 obtain ⟨U,hU,hV⟩:=hn.nag E S 1 [] (eW x.name (aT E S 0++[x.sort]) []) (fun k v hk=>by cases hk);unfold naF;simp only[cy];rw[if_neg (by omega),if_pos h5];simp only[bp,Option.all_none,if_true];rw[hU];simp only[List.all_eq_true];intro y hy;rcases List.mem_cons.1 hy with rfl | hy
 · have:bp y.name U=none:=by
     cases h:bp y.name U with
     | none=>rfl
     | some v=>rw[hV _ _ h] at hx;cases hx
   simp[this]
 · have:=(hn y hy).1
   simp[this]
structure WOk (ts:List Nd) (s:Int):Prop where
 wt:WT 8 ts s
 na:∀E S,naF ts E S=true
 sh:∀y∈ts,y.num.size≤60
 le:ts.length≤420
 tl:Nm vs8 ts.tail
theorem Nm.app {V:List (ByteArray×Int)} {a b:List Nd} (h1:Nm V a) (h2:Nm V b):Nm V (a++b):=fun x hx=>(List.mem_append.1 hx).elim (h1 x) (h2 x)
theorem oP {x:Nd} {L:List (List Nd)} {ss:List Int} {s:Int} (hn:NodeOk x L.flatten ss s) (hT:Tms vs8 7 418 L ss) (h5:x.op=5) (hx:bp x.name vs8=none) (hs:x.num.size≤60) (hl:L.flatten.length≤419) (hN:Nm vs8 L.flatten) (hS:∀y∈L.flatten,y.num.size≤60):WOk (x::L.flatten) s:=by
 obtain ⟨E,S,hw⟩:=hT.we 1;have h2:=WE.cons (p:=0) hw hn (.nil _ _);rw[List.append_nil] at h2;refine ⟨⟨_,_,h2⟩,yQ h5 hN hx,fun y hy=>?_,by rw[aq];omega,hN⟩;rcases List.mem_cons.1 hy with rfl | hy
 · exact hs
 · exact hS y hy
theorem Wth.ok {ts:List Nd} (h:Wth ts):∃s,WOk ts s:=by
 obtain ⟨t0,s,ht,rfl | ⟨rfl,rfl⟩ | ⟨rfl,q,hq,rfl⟩ | ⟨rfl,rfl⟩⟩:=h
 · exact ⟨s,ht.wt.mono (by decide),fun E S=>ht.nm.na E S,ht.sh,aA ht.le (by decide),fun y hy=>ht.nm y (List.mem_of_mem_tail hy)⟩
 · have e:t0=[t0].flatten:=by simp
   have hle:=ht.le;rw[e];exact ⟨2,oP ⟨by decide+kernel,rfl,by decide,fun e=>absurd e (by decide)⟩ (.cons ht .nil) rfl (by decide+kernel) (by decide) (by simp;omega) (by rw[←e];exact ht.nm) (by rw[←e];exact ht.sh)⟩
 · have hn:=fC 3 q (.inl rfl) hq;have e:t0++[dE 3 q]=[t0,[dE 3 q]].flatten:=by simp
   have hle:=ht.le;have hnm:Nm vs8 (t0++[dE 3 q]):=ht.nm.app hn.nm;have hsh:∀y∈t0++[dE 3 q],y.num.size≤60:=fun y hy=>(List.mem_append.1 hy).elim (ht.sh y) (hn.sh y)
   rw[e] at hnm hsh ⊢;exact ⟨1,oP ⟨by decide+kernel,rfl,by decide,fun e=>absurd e (by decide)⟩ (.cons ht (.cons (hn.mono (by decide) (by decide)) .nil)) rfl (by decide+kernel) (by decide) (by simp;omega) hnm hsh⟩
 · have e:t0=[t0].flatten:=by simp
   have hle:=ht.le;rw[e];exact ⟨4,oP ⟨by decide+kernel,rfl,by decide,fun e=>absurd e (by decide)⟩ (.cons ht .nil) rfl (by decide+kernel) (by decide) (by simp;omega) (by rw[←e];exact ht.nm) (by rw[←e];exact ht.sh)⟩
structure KOk (k:List Nd×Int×Int):Prop where
 wx:∃dk:Nat,k.2.1=dk∧dk≤8∧∃E S,WX 0 dk k.1 [k.2.2] E S
 nm:Nm vs8 k.1
 sh:∀y∈k.1,y.num.size≤60
 le:k.1.length≤420
theorem xQ {L:List (List Nd×Int×Int)} {k:List Nd×Int×Int} (h:k∈L):k.2.1≤dpL L:=by
 induction L with
 | nil=>cases h
 | cons a L ih=>
   rw[qn];rcases List.mem_cons.1 h with rfl | h
   · omega
   · have:=ih h;omega
structure RootAt (ts:List Nd) (s:Int) (x:Nd) (L:List (List Nd×Int×Int)) (E:List Nat) (S:List Int):Prop where
 eq:ts=x::(L.map (·.1)).flatten
 ok:NodeOk x (L.map (·.1)).flatten (L.map (·.2.2)) s
 we:WE 0 8 ts [s] E S
 hg:bg 0 E [] 0=(dpL L+1).toNat
 dp:0≤dpL L∧dpL L≤7
 ks:∀k∈L,KOk k
theorem WOk.root {ts:List Nd} {s:Int} (h:WOk ts s):∃x L E S,RootAt ts s x L E S:=by
 obtain ⟨E,S,hw⟩:=h.wt;obtain ⟨d,hd,hx⟩:=hw.ex;obtain ⟨x,L,he,hn,hdp,hk⟩:=hx.kids;have hd0:0≤dpL L:=vL L;refine ⟨x,L,E,S,he,hn,hw,by rw[hx.hgt];omega,⟨hd0,by omega⟩,fun k hkL=>?_⟩;obtain ⟨dk,e,E',S',hwx⟩:=hk k hkL;have hmem:∀y∈k.1,y∈ts.tail:=fun y hy=>by rw[he];exact List.mem_flatten.2 ⟨k.1,List.mem_map.2 ⟨k,hkL,rfl⟩,hy⟩
 have hdk:=xQ hkL;refine ⟨⟨dk,e,by omega,E',S',hwx⟩,fun y hy=>h.tl y (hmem y hy),fun y hy=>h.sh y (List.mem_of_mem_tail (hmem y hy)),?_⟩;have hl:=h.le;rw[he] at hl;rw[aq] at hl;have:=(List.sublist_flatten_of_mem (List.mem_map.2 ⟨k,hkL,rfl⟩:k.1∈L.map (·.1))).length_le
 omega
end Go.Proofs.YtapdbeaoakcjeaaGreatDoor.Se
/- Valid, SortOf, Depth, Kids of package term at terms of the law. -/
namespace Go.Proofs.YtapdbeaoakcjeaaGreatDoor.Se
open Go.RowKit Nmx
theorem KOk.ok {k:List Nd×Int×Int} (h:KOk k):WOk k.1 k.2.2:=by
 obtain ⟨dk,-,hd,E,S,hx⟩:=h.wx;exact ⟨WT.mono ⟨E,S,hx.we⟩ hd,fun E S=>h.nm.na E S,h.sh,h.le,fun y hy=>h.nm y (List.mem_of_mem_tail hy)⟩
theorem WOk.ne {ts:List Nd} {s:Int} (h:WOk ts s):ts≠[]:=by
 obtain ⟨E,S,hw⟩:=h.wt;intro e;have:=hw.lens;rw[e] at this
 simp at this
theorem WOk.vd {ts:List Nd} {s:Int} (h:WOk ts s):vdF (naF ts) ts=true∧soF (naF ts) ts=s:=by
 obtain ⟨E,S,hw⟩:=h.wt;obtain ⟨h1,h2⟩:=WT.shp hw (by decide) (aA h.le (by decide));unfold vdF soF;rw[h1];simp only;rw[h.na,if_pos rfl];exact ⟨rfl,h2⟩
section
theorem oQ {ts:List Nd} {s:Int} (h:WOk ts s) (g cap:Nat) (w:World) (hEn:Env w) (hN:NodesAt w g ts) (hg:g<w.heap.size):
    Calls Tryz.prog 39 #[.slice (some ⟨g,0,none⟩) ts.length cap] w (ChkPost (naF ts) ts w):=
 sA (naF ts) (some ⟨g,0,none⟩) g cap ts w (fun _=>rfl) hg hN (fun x hx=>aA (h.sh x hx) (by decide)) hEn (vF h.vd.1)
  fun W E Ss ge gs ce cs hN hgW he hs hge hgs hcE hcS=>eY g cap ge ce gs cs ts E Ss W hgW hN (aA h.le (by decide)) he hs hge hgs hcE hcS
theorem nC {ts:List Nd} {s:Int} (h:WOk ts s) (g cap:Nat) (w:World) (hEn:Env w) (hN:NodesAt w g ts) (hg:g<w.heap.size):
    Calls Tryz.prog 13 #[.slice (some ⟨g,0,none⟩) ts.length cap] w fun e w'=>e=.returned (.bool true)∧Below w.heap.size w w':=by
 have:=pT (oQ h g cap w hEn hN hg);rw[h.vd.1] at this;exact this
theorem rN {ts:List Nd} {s:Int} (h:WOk ts s) (g cap:Nat) (w:World) (hEn:Env w) (hN:NodesAt w g ts) (hg:g<w.heap.size):
    Calls Tryz.prog 23 #[.slice (some ⟨g,0,none⟩) ts.length cap] w fun e w'=>e=.returned (.int .i64 s)∧Below w.heap.size w w':=by
 have:=nw h.ne (oQ h g cap w hEn hN hg);rw[h.vd.2] at this;exact this
theorem nD {ts:List Nd} {s:Int} (h:WOk ts s) {E:List Nat} {S:List Int} (hw:WE 0 8 ts [s] E S) (g cap:Nat) (w:World) (hEn:Env w) (hN:NodesAt w g ts) (hg:g<w.heap.size):
    Calls Tryz.prog 14 #[.slice (some ⟨g,0,none⟩) ts.length cap] w fun e w'=>e=.returned (.int .i64 (bg 0 E [] 0))∧Below w.heap.size w w':=by
 have hc:=oQ h g cap w hEn hN hg;obtain ⟨hs,-⟩:=WT.shp hw (by decide) (aA h.le (by decide));have hlE:=hw.lens.1;have hna:=h.na E S;have hle:=h.le;clear hN hEn h hw
 go_enter Tryz.func14,Tryz.ntmps14
 go_wp2_with fail
 refine hc.mono ?_;rintro e w2 ⟨hb2,a1,a2,n1,c1,n2,c2,b,rfl,hm⟩;rw[hs] at hm;obtain ⟨rfl,ge,gs,rfl,rfl,rfl,rfl,l1,l2,-,-,hE,-⟩:=hm;have HB:=hid hb2;rw[hna];obtain ⟨n,hn⟩:∃n,ts.length=n:=⟨_,rfl⟩
 rw[hn] at hlE hE hle ⊢;have hal:=aD w2 (.cells #[.slice (some ⟨ge,0,none⟩) n c1,.slice (some ⟨gs,0,none⟩) n c2] 65);have hbx:=heap_alloc_new w2 (.cells #[.slice (some ⟨ge,0,none⟩) n c1,.slice (some ⟨gs,0,none⟩) n c2] 65);have b0:=ac hbx 0
 have hh:=eS (some ⟨ge,0,none⟩) ge c1 n E _ (by omega) hlE (fun _=>rfl) (am l1 hal.size) (fun t ht=>(hal.cell (p:=⟨ge,t,none⟩) l1).trans (by
  rw[hE t (by omega),au,ap ht];rfl))
 have HB2:=hid (HB.out.trans (hal.mono HB.out.size));clear hb2 hE hs hna hn hc hal hbx
 go_wp2_with fail
 generalize w2.alloc (.cells #[.slice (some ⟨ge,0,none⟩) n c1,.slice (some ⟨gs,0,none⟩) n c2] 65)=w3 at *;refine hh.mono ?_;rintro e w4 ⟨rfl,hb4⟩;have HB4:=hid (HB2.out.trans (hb4.mono HB2.out.size));clear hb4 hh
 go_wp2
 go_ret
 exact ⟨rfl,HB4.out⟩
end
end Go.Proofs.YtapdbeaoakcjeaaGreatDoor.Se
namespace Go.Proofs.YtapdbeaoakcjeaaGreatDoor.Se
open Go.RowKit Nmx
def asF (ts:List Nd) (E:List Nat):Nat→List Int→List Int
 | 0,S=>S
 | j+1,S=>asF ts E j (S.set j (rsF (ts.getD j ndZ).op (ts.getD j ndZ).sort (aT E S j)).1)
theorem WE.fp {p d:Nat} {ts:List Nd} {ss:List Int} {E:List Nat} {S:List Int} (h:WE p d ts ss E S):∀y∈ts,fpF y=true∧y.kids≤ts.length:=by
 induction h with
 | nil=>intro y hy;cases hy
 | @cons p d x ks rest ss rs s Ek Er Sk Sr hk hn hr ihk ihr=>
   intro y hy;have lk:=hk.lens;simp only[aq,ay];rcases List.mem_cons.1 hy with rfl | hy
   · exact ⟨hn.fp,by rw[hn.kn];omega⟩
   · rcases List.mem_append.1 hy with hy | hy
     · have:=ihk y hy;exact ⟨this.1,by omega⟩
     · have:=ihr y hy;exact ⟨this.1,by omega⟩
structure RA (M X g2 c2 n:Nat) (w3:World) (Ss:List Int) (W:World):Prop where
 row:W.ownsRow M 3 1 (.slice (some ⟨M,0,none⟩) n n) n (bf Ss)
 bx:W.heap[X]? =some (.cells #[.slice (some ⟨g2,0,none⟩) n c2,.slice (some ⟨M,0,none⟩) n n] 65 (0,0))
 bel:Below M w3 W
theorem RA.far {M X g2 c2 n:Nat} {w3:World} {Ss:List Int} {W W':World} (h:RA M X g2 c2 n w3 Ss W) (hb:Below W.heap.size W W'):RA M X g2 c2 n w3 Ss W':=
 ⟨bj h.row hb (fun g hg=>(h.row.lt g hg).2),(hb.block _ (aw h.bx)).trans h.bx,h.bel.trans (hb.mono (aG (h.row.lt M rfl).2))⟩
theorem RA.drew {M X g2 c2 n:Nat} {w3:World} {Ss:List Int} {W:World} (h:RA M X g2 c2 n w3 Ss W):RA M X g2 c2 n w3 Ss W.drew:=h.far (aQ (ag _ _) 1)
theorem RA.set {M X g2 c2 n:Nat} {w3:World} {Ss:List Int} {W:World} (h:RA M X g2 c2 n w3 Ss W) (hX:M<X) {j:Nat} (r:Int):RA M X g2 c2 n w3 (Ss.set j r) (W.setCell ⟨M,j,none⟩ (.int .i64 r)):=by
 refine ⟨?_,(aB _ _ _ _ (by show X≠M;omega)).trans h.bx,h.bel.setCell (show M≤M from af _) _⟩;have:=(h.row.stored j (.int .i64 r)).1;have e:bf (Ss.set j r)=(bf Ss).set j (.int .i64 r):=by unfold bf;rw[List.map_set]
 rw[e];exact this
section
theorem jK (g cap g2 c2 n:Nat) (ts:List Nd) (E:List Nat) (w3:World) (hn:ts.length=n) (hn1:n≤20000) (he:endsF n (ts.map Nd.kids)=some E) (hC:NodesAt w3 g ts) (hgM:g<w3.heap.size) (hg2M:g2<w3.heap.size)
    (hE:∀t,t<n→w3.cell? ⟨g2,t,none⟩=some (.int .i64 (E.getD t 0:Nat))) (hfp:∀y∈ts,fpF y=true):
    Calls Tryz.prog 46 #[.slice (some ⟨g,0,none⟩) n cap,.slice (some ⟨g2,0,none⟩) n c2] w3 fun e w'=>∃M,e=.returned (.slice (some ⟨M,0,none⟩) n n)∧M<w'.heap.size∧w3.heap.size≤M∧(∀t,t<n→w'.cell? ⟨M,t,none⟩=some (.int .i64 ((asF ts E n (List.replicate n 0)).getD t 0)))∧(asF ts E n (List.replicate n 0)).length=n∧Below w3.heap.size w3 w':=by
 obtain ⟨i0,hi,hz0,hz1,hz2⟩:=info_parts infoInt;have hkl:=jx (n:=n) (ks:=ts.map Nd.kids) (by simp[hn]) he;obtain ⟨k1,k2,k3,k4⟩:=hkl;have HC3:=hid hC;have HCE3:=hid hE;have HFP:=hid hfp;have HN:=hid hn;have K1:=hid k1;have K2:=hid k2;have K3:=hid k3;have K4:=hid k4;clear hC hE hfp hn k1 k2 k3 k4 he
 go_enter Tryz.func46,Tryz.ntmps46
 go_wp2_with (refine wpList_make_full _ rfl (.tmp 9) (.tmp 9) 23 rfl w3.heap.size 3 i0 (.int .i64 0) 1 Tryz.underlying23 hi hz0 hz1 .i64 .i64 n n n rfl rfl rfl rfl (by rw[hz2];omega) (by unfold maxLen;omega) (af _) ?_;intro w4 hown hgrow)
 have hb4:Below w3.heap.size w3 w4:=(ag _ _).grown hgrow (af _) (fun k h=>by cases h)
 have hown0:w4.ownsRow w3.heap.size 3 1 (.slice (some ⟨w3.heap.size,0,none⟩) n n) n (bf (List.replicate n 0)):=by
  have e:(madeCells (Value.cells (.int .i64 0)) (n*1)).toList=bf (List.replicate n 0):=by rw[dX n];simp[em,bf]
  rwa [e] at hown
 have hM4:=(hown0.lt w3.heap.size rfl).2;have hX:=heap_alloc_new w4 (.cells #[.slice (some ⟨g2,0,none⟩) n c2,.slice (some ⟨w3.heap.size,0,none⟩) n n] 65);have hown5:=hown0.alloc (.cells #[.slice (some ⟨g2,0,none⟩) n c2,.slice (some ⟨w3.heap.size,0,none⟩) n n] 65);have hb5:=hb4.alloc (by omega) (.cells #[.slice (some ⟨g2,0,none⟩) n c2,.slice (some ⟨w3.heap.size,0,none⟩) n n] 65);generalize w4.alloc (.cells #[.slice (some ⟨g2,0,none⟩) n c2,.slice (some ⟨w3.heap.size,0,none⟩) n n] 65)=w5 at *;generalize hXe:w4.heap.size=X at *;generalize hMe:w3.heap.size=M at *;have HR5:Hid (RA M X g2 c2 n w3 (List.replicate n 0) w5):=hid ⟨hown5,hX,hb5⟩;have HMe:=hid hMe;clear hown hgrow hown0 hX hown5 hb5 hb4 hXe hMe
 go_loopw [6] (fun i wr=>∃(j:Nat) (Ss:List Int),j≤n∧i=.int .i64 ((j:Int)-1)∧Ss.length=n∧asF ts E j Ss=asF ts E n (List.replicate n 0)∧RA M X g2 c2 n w3 Ss wr) (fun i _=>(intOf i+1).toNat)
 case atStart=>exact ⟨n,_,af _,rfl,by simp,rfl,HR5.out⟩
 case round=>
  clear HR5;obtain ⟨j,Ss,hj,rfl,hsl,hsr,hra⟩:=hrel;have HRA:=hid hra;have HSR:=hid hsr;have HSL:=hid hsl;clear hra hsr hsl;cases j with
  | zero=>
    have hz0':((0:Nat):Int)-1= -1:=rfl;rw[hz0'];have HFN:Hid (asF ts E n (List.replicate n 0)=Ss):=hid HSR.out.symm;have HC5:Hid (∀t,t<n→wr.cell? ⟨M,t,none⟩=some (.int .i64 (Ss.getD t 0))):=hid fun t ht=>(HRA.out.row.cellAt t (by omega)).trans (by unfold bf;rw[List.getElem?_map,au,ap (by rw[HSL.out];exact ht)];rfl)
    have b1:=ac HRA.out.bx 1
    go_wp2
    go_ret
    exact ⟨M,rfl,(HRA.out.row.lt M rfl).2,by have:=HMe.out;omega,by rw[HFN.out];exact HC5.out,by rw[HFN.out];exact HSL.out,by rw[HMe.out];exact HRA.out.bel⟩
  | succ j=>
    have hji:((j+1:Nat):Int)-1=(j:Int):=by omega
    rw[hji];have hjn:j<n:=by omega
    have hjl:j<ts.length:=by rw[HN.out];exact hjn
    have hx:ts[j]? =some ts[j]:=ap hjl;have hgd:ts.getD j ndZ=ts[j]:=by rw[au,hx];rfl
    have hf:=HFP.out ts[j] (List.getElem_mem hjl);have hk4:=K4.out j hjn;have hmk:(ts.map Nd.kids).getD j 0=ts[j].kids:=by rw[au,List.getElem?_map,hx];rfl
    rw[hmk] at hk4;have HGD:=hid hgd;have HN3:Hid (∀k,k<5→w3.cell? ⟨g,j*5+k,none⟩=ts[j].cells[k]?):=hid fun k hk=>HC3.out j _ hx k hk
    clear hji hx hgd hmk;generalize ts[j]=x at *;obtain ⟨op,sort,name,num,kids⟩:=x;simp only at hk4;have hpf:=mb hf;have HOP:Hid (1≤op∧op≤20):=hid hpf.1;have HLN:Hid ((arF op).1≤(aT E Ss j).length):=hid (by unfold aT;rw[List.length_map,hk4.2];exact hpf.2);have HKL:Hid ((aT E Ss j).length≤1000000):=hid (by unfold aT;rw[List.length_map];have h1:=eD E (j+1) (E.getD j 0);have h2:=K3.out j hjn;omega);have hXM:M<X:=hM4;have hMw:M<wr.heap.size:=(HRA.out.row.lt M rfl).2
    have HKS:Hid (∀W,RA M X g2 c2 n w3 Ss W→Calls Tryz.prog 73 #[.agg #[.slice (some ⟨g2,0,none⟩) n c2,.slice (some ⟨M,0,none⟩) n n],.int .i64 j] W fun e w'=>∃v,e=.returned v∧(∃a g' c,v=.slice a (aT E Ss j).length c∧RowI w' a g' (aT E Ss j))∧Below W.heap.size W w'):=hid fun W hW=>by
     have hks:=ez (some ⟨g2,0,none⟩) (some ⟨M,0,none⟩) g2 M c2 n E Ss j W (by rw[K1.out];omega) (HSL.out.trans K1.out.symm) (fun _=>rfl) (fun _=>rfl) (am hg2M (aG (hW.row.lt M rfl).2)) (hW.row.lt M rfl).2
      (fun t ht=>(hW.bel.cell (p:=⟨g2,t,none⟩) hg2M).trans ((HCE3.out t (by rw[K1.out] at ht;exact ht)).trans (by rw[au,ap ht];rfl)))
      (fun t ht=>(hW.row.cellAt t (by rw[K1.out] at ht;omega)).trans (by rw[K1.out] at ht;unfold bf;rw[List.getElem?_map,au,ap (by rw[HSL.out];exact ht)];rfl))
      (by rw[K1.out];exact hjn) (fun t ht=>K2.out t (by rw[K1.out] at ht;exact ht)) (fun t ht=>by rw[K1.out] at ht ⊢;exact K3.out t ht)
     rw[K1.out] at hks;refine hks.mono ?_;rintro e w' ⟨v,rfl,hown',hb'⟩;obtain ⟨a,g',c,hv,q1,q2,q3⟩:=oA hown' (am (Nat.lt_of_le_of_lt (aF _) (hW.row.lt M rfl).2) hb'.size) HKL.out;exact ⟨v,rfl,⟨a,g',c,hv,⟨q1,q2,HKL.out,q3⟩⟩,hb'⟩
    have HRS:Hid (∀W a g' c,RowI W a g' (aT E Ss j)→Calls Tryz.prog 42 #[.agg #[.int .i64 op,.int .i64 sort,.string name,.string num,.int .i64 kids],.slice a (aT E Ss j).length c] W fun e w'=>e=.returned (.tuple #[.int .i64 (rsF op sort (aT E Ss j)).1,.bool (rsF op sort (aT E Ss j)).2])∧Below W.heap.size W w'):=hid fun W a g' c hrow=>de ⟨op,sort,name,num,kids⟩ a g' c _ W hrow HOP.out HLN.out
    have HSN:Hid (asF ts E j (Ss.set j (rsF op sort (aT E Ss j)).1)=asF ts E n (List.replicate n 0)):=hid (by
     rw[←HSR.out];conv=>rhs;unfold asF
     rw[HGD.out])
    have hi5:0≤(j:Int)∧(j:Int)<(n:Int):=by omega
    clear hk4 hpf hf;generalize hr1:(rsF op sort (aT E Ss j)).1=r1 at *;generalize hr2:(rsF op sort (aT E Ss j)).2=r2 at *;clear hr1 hr2
    go_wp2
    refine aR [[],[0],[],[],[],[3,4],[3,4,5],[],[],[7,8],[3,4,5,6,7,8,9],[3,4,5,6,7,8,9,10],[3,4,5,6,7,8,9,10,11],[3,4,5,6,7,8,9,10,11],[0,1,2,3,4,5,6,7,8,9,10,11,12],[0,1,2,3,4,5,6,7,8,9,10,11,12,14]] (fun W=>RA M X g2 c2 n w3 Ss W) (fun _=>True) ?_
    iterate 6
     apply aN
     · intro x;go_simp;done
     · intro x W R hW hF hR;have b0:=ac hW.bx 0;have b1:=ac hW.bx 1;clear hF;unfold aK
       go_simp
       simp only[aC];exact hR _ (ag _ _)
     simp only[Act.put,aa,ah,aj]
    apply aN
    · intro x;go_simp;done
    · intro x W R hW hF hR;have nn:=fun k (hk:k<5)=>(hW.bel.cell (p:=⟨g,j*5+k,none⟩) hgM).trans (HN3.out k hk)
      have n0:=nn 0 (by omega);have n1:=nn 1 (by omega);have n2:=nn 2 (by omega);have n3:=nn 3 (by omega);have n4:=nn 4 (by omega);simp only[Nd.cells,List.getElem?_cons_succ,List.getElem?_cons_zero,Nat.add_zero] at n0 n1 n2 n3 n4;clear hF nn;unfold aK
      go_simp
      simp only[aC];exact hR _ (ag _ _)
    simp only[Act.put,aa,ah,aj]
    iterate 2
     apply aN
     · intro x;go_simp;done
     · intro x W R hW hF hR;have b0:=ac hW.bx 0;have b1:=ac hW.bx 1;clear hF;unfold aK
       go_simp
       simp only[aC];exact hR _ (ag _ _)
     simp only[Act.put,aa,ah,aj]
    refine cV (fun v W=>∃a g' c,v=.slice a (aT E Ss j).length c∧RowI W a g' (aT E Ss j)) (fun _ _ _ h hb=>let ⟨a,g',c,h1,h2⟩:=h;⟨a,g',c,h1,h2.far hb⟩) ?_ ?_ ?_
    · intro x;go_simp;done
    · intro x W R hW hF hR;have b0:=ac hW.bx 0;have b1:=ac hW.bx 1;clear hF;unfold aK
      go_simp
      simp only[aC];refine (HKS.out W hW).mono ?_;rintro e w4 ⟨v,rfl,hv,hb4⟩;exact ⟨v,rfl,hR _ _ hv hb4⟩
    simp only[Act.put,aa,ah,aj,aq,aE,Nat.zero_add,Nat.reduceAdd];apply aN
    · intro x;go_simp;done
    · intro x W R hW hF hR;obtain ⟨a,g',c,hx,hrow⟩:=hF.1.2 rfl rfl rfl;simp only[hx];clear hF;unfold aK
      go_simp
      simp only[aC];refine (HRS.out W a g' c hrow).mono ?_;rintro e w4 ⟨rfl,hb4⟩;exact ⟨_,rfl,hR _ hb4⟩
    simp only[Act.put,aa,ah,aj]
    iterate 2
     apply aN
     · intro x;go_simp;done
     · intro x W R hW hF hR;have b0:=ac hW.bx 0;have b1:=ac hW.bx 1;clear hF;unfold aK
       go_simp
       simp only[aC];exact hR _ (ag _ _)
     simp only[Act.put,aa,ah,aj]
    apply gF
    · intro x;go_simp;done
    · intro x W R hW hF hR;clear hF hW;unfold aK
      go_simp
      simp only[aC];exact hR _ (ag _ _)
    simp only[Act.put,aa,ah,aj];apply aN
    · intro x;go_simp;done
    · intro x W R hW hF hR;have b0:=ac hW.bx 0;have b1:=ac hW.bx 1;clear hF;unfold aK
      go_simp
      simp only[aC];exact hR _ (ag _ _)
    simp only[Act.put,aa,ah,aj];refine fD (fun _ W=>RA M X g2 c2 n w3 (Ss.set j r1) W) (fun _ _ _ h hb=>h.far hb) (fun _ _ _ _ h=>h) ?_ ?_ ?_
    · intro x;go_simp;done
    · intro x W R hW hF hD hR;have fz:=hW.row.frozenAt j;obtain ⟨u,hu⟩:∃u,W.cell? ⟨M,j,none⟩=some u:=⟨_,(hW.row.cellAt j (by omega)).trans (by unfold bf;rw[List.getElem?_map,ap (by rw[HSL.out];omega)];rfl)⟩
      clear hF hD;unfold aK
      go_simp
      simp only[aC];exact hR _ _ (hW.set hXM r1) trivial (by simp[World.setCell])
    simp only[Act.put];refine bS (by kernel_rfl) (by kernel_rfl) (by kernel_rfl) (fun _ _ h hb=>h.far hb) (fun _ _ _ _=>trivial) (fun _ _=>trivial) (HRA.out.drew) ?_;intro x W hE hW hF hD;clear hD;have HT:=hid (hF.1.2 rfl);clear hW hF
    go_wp2
    go_roundw
    case rel=>exact ⟨j,Ss.set j r1,by omega,by go_num,by rw[aL];exact HSL.out,HSN.out,HT.out⟩
    case measure=>simp[intOf]
end
end Go.Proofs.YtapdbeaoakcjeaaGreatDoor.Se
/- New of package term at the root and the children of a term. -/
namespace Go.Proofs.YtapdbeaoakcjeaaGreatDoor.Se
open Go.RowKit Nmx
theorem WE.endsF {d:Nat} {ts:List Nd} {ss:List Int} {E:List Nat} {S:List Int} (h:WE 0 d ts ss E S):Se.endsF ts.length (ts.map Nd.kids)=some E:=by
 have:=h.ends ts.length [] [] rfl rfl (by simp);rwa [List.append_nil,List.append_nil] at this
section
theorem qp {d:Nat} {ts:List Nd} {ss:List Int} {E:List Nat} {S:List Int} (hw:WE 0 d ts ss E S) (hl:ts.length≤420) (h0:0<ts.length) (g cap:Nat) (w:World) (hc:NodesAt w g ts) (hg:g<w.heap.size):
    Calls Tryz.prog 44 #[.slice (some ⟨g,0,none⟩) ts.length cap] w fun e w'=>∃g2 c2,e=.returned (.tuple #[.slice (some ⟨g2,0,none⟩) ts.length c2,.bool true])∧g2<w'.heap.size∧w.heap.size≤g2∧(∀t,t<ts.length→w'.cell? ⟨g2,t,none⟩=some (.int .i64 (E.getD t 0:Nat)))∧Below w.heap.size w w':=by
 have hte:=jy (some ⟨g,0,none⟩) g cap ts w (by omega) (fun _=>rfl) hg hc;have hE:=hw.lens.1;unfold EndsPost at hte;rw[hw.endsF] at hte;refine hte.mono ?_;rintro e w2 ⟨hb2,v,rfl,ho2⟩;obtain ⟨a2,g2,c2,hv,r1,r2,r3⟩:=gh (E:=E) (by rw[hE];exact ho2) (by have:=hb2.size;omega);rw[hE] at hv r1;subst hv;obtain rfl:=r1 (by omega);exact ⟨g2,c2,rfl,r2,(ho2.lt g2 rfl).1,fun t ht=>(r3 t (by omega)).trans (by rw[au,ap (by omega)];rfl),hb2⟩
end
structure NB (S M n:Nat) (w:World) (op sort:Int) (name num:ByteArray) (kd:Int) (ss:List Int) (j:Nat) (W:World):Prop where
 bx:W.heap[S]? =some (.cells #[.int .i64 op,.int .i64 sort,.string name,.string num,.int .i64 kd] 34 (0,0))
 row:∃xs:List Int,xs.length=n∧(∀q,q<j→xs[q]? =ss[q]?)∧W.ownsRow (S+1) 3 1 (.slice (some ⟨M,0,none⟩) n n) n (bf xs)
 bel:Below S w W
section
variable {S M n:Nat} {w:World} {op sort:Int} {name num:ByteArray} {kd:Int} {ss:List Int} {j:Nat} {W W':World}
theorem NB.lt (h:NB S M n w op sort name num kd ss j W):S<M∧M<W.heap.size:=by
 obtain ⟨_,_,_,h3⟩:=h.row;have:=h3.lt M rfl
 omega
theorem NB.far (h:NB S M n w op sort name num kd ss j W) (hb:Below W.heap.size W W'):NB S M n w op sort name num kd ss j W':=
 ⟨(hb.block _ (aw h.bx)).trans h.bx,let ⟨s,h1,h2,h3⟩:=h.row;⟨s,h1,h2,bj h3 hb (fun g hg=>(h3.lt g hg).2)⟩,h.bel.trans (hb.mono (aG (aw h.bx)))⟩
theorem NB.cell (h:NB S M n w op sort name num kd ss j W) {q:Nat} (hq:q<n):(∃u,W.cell? ⟨M,q,none⟩=some u)∧W.frozen? ⟨M,q,none⟩=false:=by
 obtain ⟨xs,h1,h2,h3⟩:=h.row;exact ⟨⟨_,(h3.cellAt q (by omega)).trans (by unfold bf;rw[List.getElem?_map,ap (by omega)];rfl)⟩,h3.frozenAt q⟩
theorem NB.set (h:NB S M n w op sort name num kd ss j W) (hj:j<n) {v:Int} (hv:ss[j]? =some v):NB S M n w op sort name num kd ss (j+1) (W.setCell ⟨M,j,none⟩ (.int .i64 v)):=by
 obtain ⟨xs,h1,h2,h3⟩:=h.row;have hl:=h.lt;refine ⟨(aB _ _ _ _ (by show S≠M;omega)).trans h.bx,⟨xs.set j v,by rw[aL];exact h1,fun q hq=>?_,?_⟩,h.bel.setCell (show S≤M by omega) _⟩
 · by_cases hqj:q=j
   · subst hqj;rw[hv,List.getElem?_set_self (by omega)]
   · rw[List.getElem?_set_ne (fun e=>hqj e.symm)];exact h2 q (by omega)
 · have e:bf (xs.set j v)=(bf xs).set j (.int .i64 v):=by unfold bf;rw[List.map_set]
   rw[e];exact (h3.stored j (.int .i64 v)).1
theorem NB.kid (h:NB S M n w op sort name num kd ss j W) (v:Int):NB S M n w op sort name num v ss j (W.setCell ⟨S,4,none⟩ (.int .i64 v)):=by
 obtain ⟨xs,h1,h2,h3⟩:=h.row;have hl:=h.lt;exact ⟨heap_set h.bx 4 (.int .i64 v),⟨xs,h1,h2,fA h3 (fun g hg=>by have e:M=g:=aH hg;exact aB _ _ _ _ (by show g≠S;omega))⟩,h.bel.setCell (show S≤S from af _) _⟩
theorem NB.rowI (h:NB S M n w op sort name num kd ss n W) (hs:ss.length=n) (hn:n≤1000000):RowI W (some ⟨M,0,none⟩) M ss:=by
 obtain ⟨xs,h1,h2,h3⟩:=h.row
 have e:xs=ss:=by
  apply List.ext_getElem?;intro q
  by_cases hq:q<n
  · exact h2 q hq
  · rw[List.getElem?_eq_none (by omega),List.getElem?_eq_none (by omega)]
 subst e;refine ⟨fun _=>rfl,h.lt.2,by omega,fun t ht=>?_⟩;rw[h3.cellAt t (by omega)];unfold bf;rw[List.getElem?_map,ap ht];rfl
end
section
theorem xR {ts:List Nd} {s:Int} {x:Nd} {L:List (List Nd×Int×Int)} {E:List Nat} {Sx:List Int} (hr:RootAt ts s x L E Sx) (h:WOk ts s) (kd:Int) (ak:Option Addr) (gk ck:Nat) (w:World) (hEn:Env w) (hk:Kds w ak gk (L.map (·.1))):
    Calls Tryz.prog 15 #[.agg #[.int .i64 x.op,.int .i64 x.sort,.string x.name,.string x.num,.int .i64 kd],.slice ak L.length ck] w fun e w'=>∃g c,e=.returned (.tuple #[.slice (some ⟨g,0,none⟩) ts.length c,.int .i64 0])∧NodesAt w' g ts∧g<w'.heap.size∧w.heap.size≤g∧Below w.heap.size w w':=by
 obtain ⟨i0,hi,hz0,hz1,hz2⟩:=info_parts infoInt;have hle:=h.le;have hlen:ts.length=1+(L.map (·.1)).flatten.length:=by rw[hr.eq,aq,Nat.add_comm]
 have hLn:L.length≤420:=by
  have h1:=(hr.we.fp x (by rw[hr.eq];simp)).2;have h2:=hr.ok.kn;rw[List.length_map] at h2
  omega
 have HK:=hid hk;have HEn:=hid hEn;obtain ⟨n,hn⟩:∃n,L.length=n:=⟨_,rfl⟩
 have HNL:=hid hn;rw[hn] at hLn ⊢;clear hk hEn hn;obtain ⟨op,sort,name,num,kids⟩:=x;have hkn:kids=(n:Int):=by have:=hr.ok.kn;rw[List.length_map,HNL.out] at this;exact this
 subst hkn;simp only;have hbx:=heap_alloc_new w (.cells #[.int .i64 op,.int .i64 sort,.string name,.string num,.int .i64 kd] 34);have hal:=aD w (.cells #[.int .i64 op,.int .i64 sort,.string name,.string num,.int .i64 kd] 34);have hsz1:(w.alloc (.cells #[.int .i64 op,.int .i64 sort,.string name,.string num,.int .i64 kd] 34)).heap.size=w.heap.size+1:=by simp
 have HR:=hid hr;have HOK:=hid h;obtain ⟨ss,hss⟩:∃ss,L.map (·.2.2)=ss:=⟨_,rfl⟩
 have HSS:=hid hss;have hsl:ss.length=n:=by rw[←hss,List.length_map,HNL.out]
 have HSL:=hid hsl;clear hr h hss hsl
 go_enter Tryz.func15,Tryz.ntmps15
 go_wp2_with (refine wpList_make_full _ rfl (.tmp 15) (.tmp 15) 23 rfl (w.heap.size+1) 3 i0 (.int .i64 0) 1 Tryz.underlying23 hi hz0 hz1 .i64 .i64 n n n rfl rfl rfl rfl (by rw[hz2];omega) (by unfold maxLen;omega) (by rw[hsz1];exact af _) ?_;intro w2 hown hgrow)
 rw[hsz1] at hown;generalize w.alloc (.cells #[.int .i64 op,.int .i64 sort,.string name,.string num,.int .i64 kd] 34)=w1 at *;generalize hS:w.heap.size=S at *;have HSe:=hid hS;clear hS;have hb2:Below w1.heap.size w1 w2:=(ag _ _).grown hgrow (af _) (fun k h=>by cases h)
 have hown0:w2.ownsRow (S+1) 3 1 (.slice (some ⟨S+1,0,none⟩) n n) n (bf (List.replicate n 0)):=by
  have e:(madeCells (Value.cells (.int .i64 0)) (n*1)).toList=bf (List.replicate n 0):=by rw[dX n];simp[em,bf]
  rwa [e] at hown
 have hnb:NB S (S+1) n w op sort name num kd ss 0 w2:=⟨(hb2.block _ (by omega)).trans hbx,⟨List.replicate n 0,by simp,fun q hq=>absurd hq (Nat.not_lt_zero q),hown0⟩,hal.trans (hb2.mono (by omega))⟩
 have HNB:=hid hnb;clear hown hgrow hown0 hb2 hbx hal hsz1 hnb;generalize S+1=M at *
 go_loopw [19] (fun i wr=>∃j:Nat,j≤n∧i=.int .i64 j∧NB S M n w op sort name num kd ss j wr) (fun i _=>n-(intOf i).toNat)
 case atStart=>exact ⟨0,aF _,rfl,HNB.out⟩
 case round=>
  clear HNB;obtain ⟨j,hj,rfl,hnb⟩:=hrel;have HNB:=hid hnb;clear hnb;have HEw:Hid (Env wr):=hid (HEn.out.far (by rw[HSe.out];exact HNB.out.bel));have HKw:Hid (Kds wr ak gk (L.map (·.1))):=hid (HK.out.far (by rw[HSe.out];exact HNB.out.bel))
  by_cases hlt:j<n
  · have hjL:j<L.length:=by rw[HNL.out];exact hlt
    obtain rfl:=HK.out.1 (by rw[List.length_map,HNL.out];omega);have hmem:L[j]∈L:=List.getElem_mem hjL;have hko:=HR.out.ks _ hmem
    have hs1:1≤L[j].2.2:=by
     obtain ⟨_,_,_,_,_,hx⟩:=hko.wx;exact (hx.we.sorts _ (List.mem_singleton.2 rfl)).1
    obtain ⟨gj,cj,hcj,hNj,hlj⟩:=HKw.out.2.2 j L[j].1 (by rw[List.getElem?_map,ap hjL];rfl);have hso:=rN hko.ok gj cj wr HEw.out hNj hlj;have hsj:ss[j]? =some L[j].2.2:=by rw[←HSS.out,List.getElem?_map,ap hjL];rfl
    have HSJ:=hid hsj;clear hko hmem hNj hsj;generalize L[j].2.2=sj at *;generalize L[j].1.length=m at *;have hz:(sj==0)=false:=by simp;omega
    go_wp2_with fail
    refine hso.mono ?_;rintro e w4 ⟨rfl,hb4⟩;have hn4:=HNB.out.far hb4;obtain ⟨⟨u,hu⟩,hfz⟩:=hn4.cell hlt;have HN5:=hid (hn4.set hlt HSJ.out);have hlM:=hn4.lt.2;clear hb4 hso HNB HKw hcj hn4
    go_wp2
    go_roundw
    case rel=>exact ⟨j+1,by omega,by go_num,HN5.out⟩
    case measure=>simp[intOf];omega
  · obtain rfl:j=n:=by omega
    have HN3:=hid (HNB.out.kid (j:Int));have hbb:=ac HNB.out.bx 4;have hzz:=aM HNB.out.bx 4;have c0:=ac HN3.out.bx 0;have c1:=ac HN3.out.bx 1;have c2:=ac HN3.out.bx 2;have c3:=ac HN3.out.bx 3;have c4:=ac HN3.out.bx 4;have hE3:Env (wr.setCell ⟨S,4,none⟩ (.int .i64 j)):=HEn.out.far (by rw[HSe.out];exact HN3.out.bel);have HX:Hid ((⟨op,sort,name,num,(j:Int)⟩:Nd)∈ts):=hid (by rw[HR.out.eq];simp);have hfp:=ew ⟨op,sort,name,num,(j:Int)⟩ _ (aA (HOK.out.sh _ HX.out) (by decide)) hE3;have hf:=HR.out.ok.fp;rw[hf] at hfp;have hpf:=mb hf;have HOP:Hid (1≤op∧op≤20):=hid hpf.1;have HAR:Hid ((arF op).1≤(ss.length:Int)):=hid (by rw[HSL.out];exact hpf.2);unfold Nd.val at hfp;simp only at hfp
    -- the first child's first node, where the operator is a product
    have HG:Hid (∀W,Below S w W→(op==15)=true→∃g0 m0 c0,ak=some ⟨gk,0,none⟩∧0<j∧0<m0∧W.cell? ⟨gk,0,none⟩=some (.slice (some ⟨g0,0,none⟩) m0 c0)∧W.cell? ⟨g0,0,none⟩=some (.int .i64 3)):=hid fun W hW h15=>by
     have h15':op=15:=by simpa using h15
     have h2:=hpf.2;rw[h15'] at h2
     have hj2:2≤j:=by
      have:(2:Int)≤(j:Int):=h2
      omega
     have hL0:0<L.length:=by rw[HNL.out];omega
     have hko:=HR.out.ks _ (List.getElem_mem hL0);obtain ⟨gj,cj,q1,q2,q3⟩:=(HK.out.far (by rw[HSe.out];exact hW)).2.2 0 L[0].1 (by rw[List.getElem?_map,ap hL0];rfl);have hm:=HR.out.ok.mul h15'
     obtain ⟨y,r,hy⟩:∃y r,L[0].1=y::r:=by
      cases hh:L[0].1 with
      | nil=>exact absurd hh hko.ok.ne
      | cons y r=>exact ⟨y,r,rfl⟩
     have hfl:(L.map (·.1)).flatten.getD 0 ndZ=y:=by
      rw[show L=L[0]::L.drop 1 by rw[←List.drop_eq_getElem_cons hL0,List.drop_zero],List.map_cons,List.flatten_cons];rw[hy];rfl
     rw[hfl] at hm;have q4:=q2 0 y (by rw[hy];rfl) 0 (by omega);simp only[Nd.cells,List.getElem?_cons_zero,Nat.zero_mul,Nat.add_zero] at q4;rw[hm] at q4;exact ⟨gj,L[0].1.length,cj,HK.out.1 (by rw[List.length_map];omega),by omega,by rw[hy];simp,q1,q4⟩
    have HBw:Hid (Below S w wr):=hid HNB.out.bel;clear hlt hE3 hf hpf HNB
    go_wp2_with fail
    generalize wr.setCell ⟨S,4,none⟩ (.int .i64 j)=w3 at *;refine hfp.mono ?_;rintro e w4 ⟨rfl,hb4⟩;have HN4:=hid (HN3.out.far hb4);have hG4:=HG.out w4 HN4.out.bel;clear hb4 hfp HN3 c0 c1 c2 c3 c4 hbb hzz HG;have c0:=ac HN4.out.bx 0;have c1:=ac HN4.out.bx 1;have c2:=ac HN4.out.bx 2;have c3:=ac HN4.out.bx 3;have c4:=ac HN4.out.bx 4;have hrs:=de ⟨op,sort,name,num,(j:Int)⟩ (some ⟨M,0,none⟩) M j ss w4 (HN4.out.rowI HSL.out (by omega)) HOP.out HAR.out;have hok:=HR.out.ok.rs;simp only at hok;rw[HSS.out] at hok;simp only at hrs;rw[hok,HSL.out] at hrs;unfold Nd.val at hrs;simp only at hrs;clear hok;have HLEN:Hid (ts.length=1+(L.map (·.1)).flatten.length):=hid hlen;have HHG:Hid (bg 0 E [] 0≤257):=hid (by have h1:=HR.out.hg;have h2:=HR.out.dp;omega);have HNAF:Hid (∀S',naF ts E S'=true):=hid fun S'=>HOK.out.na E S'
    obtain ⟨N,hN⟩:∃N,ts.length=N:=⟨_,rfl⟩
    have HNN:=hid hN;rw[hN] at hlen hle;have hN0:0<N:=by omega
    clear hN hlen;cases h15:(op==15)
    · clear hG4
      go_wp2_with fail
      refine hrs.mono ?_;rintro e w5 ⟨rfl,hb5⟩;have hn5:=HN4.out.far hb5;have c0:=ac hn5.bx 0;have c1:=ac hn5.bx 1;have c2:=ac hn5.bx 2;have c3:=ac hn5.bx 3;have c4:=ac hn5.bx 4;have hnode:=gt ⟨op,sort,name,num,(j:Int)⟩ _ gk ck (L.map (·.1)) w5 (HK.out.far (by rw[HSe.out];exact hn5.bel)) (by have:=HLEN.out;have:=HNN.out;omega) (by rw[List.length_map,HNL.out];omega);rw[List.length_map,HNL.out] at hnode;unfold Nd.val at hnode;simp only at hnode;have HB5:Hid (Below w.heap.size w w5):=hid (by rw[HSe.out];exact hn5.bel);clear hb5 hrs hn5 HN4
      go_wp2_with fail
      refine hnode.mono ?_;rintro e w6 ⟨g,c,rfl,hNd,hgl,hgm,hb6⟩
      have hNt:NodesAt w6 g ts:=by
       rw[HR.out.eq];rw[List.length_map,HNL.out] at hNd;exact hNd
      rw[←HLEN.out,HNN.out];have hends:=qp HR.out.we (by rw[HNN.out];exact hle) (by rw[HNN.out];exact hN0) g c w6 hNt hgl;rw[HNN.out] at hends;have HB6:=hid (HB5.out.trans (hb6.mono HB5.out.size));have HG6:Hid (w.heap.size≤g):=hid (aA HB5.out.size hgm);have HNT:=hid hNt;clear hNd hNt hb6 hgm hnode c0 c1 c2 c3 c4
      go_wp2_with fail
      refine hends.mono ?_;rintro e w7 ⟨g2,c2,rfl,l2,m2,hE2,hb7⟩;have hgl7:=am hgl hb7.size;have hN7:=HNT.out.below hb7 hgl;have has:=jK g c g2 c2 N ts E w7 HNN.out (by omega) (by rw[←HNN.out];exact HR.out.we.endsF) hN7 hgl7 l2 hE2 (fun y hy=>(HR.out.we.fp y hy).1);have HB7:=hid (HB6.out.trans (hb7.mono HB6.out.size));have HN7:=hid hN7;have HE7:=hid hE2;clear hb7 hN7 hE2 hends HNT
      go_wp2_with fail
      refine has.mono ?_;rintro e w8 ⟨M2,rfl,lM2,mM2,hS2,hlS2,hb8⟩;have hgl8:=am hgl7 hb8.size;have l28:=am l2 hb8.size;have hE8:∀t,t<N→w8.cell? ⟨g2,t,none⟩=some (.int .i64 (E.getD t 0:Nat)):=fun t ht=>(hb8.cell (p:=⟨g2,t,none⟩) l2).trans (HE7.out t ht)
      have hN8:=HN7.out.below hb8 hgl7;obtain ⟨S',hS'⟩:∃S',asF ts E N (List.replicate N 0)=S':=⟨_,rfl⟩
      rw[hS'] at hS2 hlS2;have hna:=eY g c g2 c2 M2 N ts E S' w8 hgl8 hN8 (by rw[HNN.out];omega) HR.out.we.endsF (by rw[HNN.out];exact hlS2) l28 lM2 (fun t ht=>hE8 t (by rw[HNN.out] at ht;exact ht)) (fun t ht=>hS2 t (by rw[HNN.out] at ht;exact ht));rw[HNAF.out,HNN.out] at hna;have HB8:=hid (HB7.out.trans (hb8.mono HB7.out.size));have HN8:=hid hN8;have HE8:=hid hE8;clear hb8 hN8 hE8 has HN7 HE7 hS2 hS'
      go_wp2_with fail
      refine hna.mono ?_;rintro e w9 ⟨rfl,hb9⟩
      have hh:=eS (some ⟨g2,0,none⟩) g2 c2 N E w9 (by omega) (by rw[HR.out.we.lens.1];exact HNN.out) (fun _=>rfl) (am l28 hb9.size) (fun t ht=>(hb9.cell (p:=⟨g2,t,none⟩) l28).trans (by
       rw[HE8.out t (by rw[HR.out.we.lens.1,HNN.out] at ht;exact ht),au,ap ht];rfl))
      have hHG:=HHG.out;generalize bg 0 E [] 0=ht at *;have e1:¬(20000:Int)<(N:Int):=by omega
      have e2:¬(257:Int)<(ht:Int):=by omega
      have HB9:=hid (HB8.out.trans (hb9.mono HB8.out.size));have HN9:=hid (HN8.out.below hb9 hgl8);have hgl9:=am hgl8 hb9.size;clear hb9 hna HN8 HE8 hHG
      go_wp2_with fail
      refine hh.mono ?_;rintro e w10 ⟨rfl,hb10⟩;have HB10:=hid (HB9.out.trans (hb10.mono HB9.out.size));have HN10:=hid (HN9.out.below hb10 hgl9);have hgl10:=am hgl9 hb10.size;clear hb10 hh HN9
      go_wp2
      go_ret2
      exact ⟨g,c,by rw[HNN.out];rfl,HN10.out,hgl10,HG6.out,HB10.out⟩
    · obtain ⟨g0,m0,c0',hak,hj0,hm0,q1,q2⟩:=hG4 h15;subst hak
      go_wp2_with fail
      refine hrs.mono ?_;rintro e w5 ⟨rfl,hb5⟩;have hn5:=HN4.out.far hb5;have c0:=ac hn5.bx 0;have c1:=ac hn5.bx 1;have c2:=ac hn5.bx 2;have c3:=ac hn5.bx 3;have c4:=ac hn5.bx 4;have hnode:=gt ⟨op,sort,name,num,(j:Int)⟩ _ gk ck (L.map (·.1)) w5 (HK.out.far (by rw[HSe.out];exact hn5.bel)) (by have:=HLEN.out;have:=HNN.out;omega) (by rw[List.length_map,HNL.out];omega);rw[List.length_map,HNL.out] at hnode;unfold Nd.val at hnode;simp only at hnode;have HB5:Hid (Below w.heap.size w w5):=hid (by rw[HSe.out];exact hn5.bel);clear hb5 hrs hn5 HN4
      go_wp2_with fail
      refine hnode.mono ?_;rintro e w6 ⟨g,c,rfl,hNd,hgl,hgm,hb6⟩
      have hNt:NodesAt w6 g ts:=by
       rw[HR.out.eq];rw[List.length_map,HNL.out] at hNd;exact hNd
      rw[←HLEN.out,HNN.out];have hends:=qp HR.out.we (by rw[HNN.out];exact hle) (by rw[HNN.out];exact hN0) g c w6 hNt hgl;rw[HNN.out] at hends;have HB6:=hid (HB5.out.trans (hb6.mono HB5.out.size));have HG6:Hid (w.heap.size≤g):=hid (aA HB5.out.size hgm);have HNT:=hid hNt;clear hNd hNt hb6 hgm hnode c0 c1 c2 c3 c4
      go_wp2_with fail
      refine hends.mono ?_;rintro e w7 ⟨g2,c2,rfl,l2,m2,hE2,hb7⟩;have hgl7:=am hgl hb7.size;have hN7:=HNT.out.below hb7 hgl;have has:=jK g c g2 c2 N ts E w7 HNN.out (by omega) (by rw[←HNN.out];exact HR.out.we.endsF) hN7 hgl7 l2 hE2 (fun y hy=>(HR.out.we.fp y hy).1);have HB7:=hid (HB6.out.trans (hb7.mono HB6.out.size));have HN7:=hid hN7;have HE7:=hid hE2;clear hb7 hN7 hE2 hends HNT
      go_wp2_with fail
      refine has.mono ?_;rintro e w8 ⟨M2,rfl,lM2,mM2,hS2,hlS2,hb8⟩;have hgl8:=am hgl7 hb8.size;have l28:=am l2 hb8.size;have hE8:∀t,t<N→w8.cell? ⟨g2,t,none⟩=some (.int .i64 (E.getD t 0:Nat)):=fun t ht=>(hb8.cell (p:=⟨g2,t,none⟩) l2).trans (HE7.out t ht)
      have hN8:=HN7.out.below hb8 hgl7;obtain ⟨S',hS'⟩:∃S',asF ts E N (List.replicate N 0)=S':=⟨_,rfl⟩
      rw[hS'] at hS2 hlS2;have hna:=eY g c g2 c2 M2 N ts E S' w8 hgl8 hN8 (by rw[HNN.out];omega) HR.out.we.endsF (by rw[HNN.out];exact hlS2) l28 lM2 (fun t ht=>hE8 t (by rw[HNN.out] at ht;exact ht)) (fun t ht=>hS2 t (by rw[HNN.out] at ht;exact ht));rw[HNAF.out,HNN.out] at hna;have HB8:=hid (HB7.out.trans (hb8.mono HB7.out.size));have HN8:=hid hN8;have HE8:=hid hE8;clear hb8 hN8 hE8 has HN7 HE7 hS2 hS'
      go_wp2_with fail
      refine hna.mono ?_;rintro e w9 ⟨rfl,hb9⟩
      have hh:=eS (some ⟨g2,0,none⟩) g2 c2 N E w9 (by omega) (by rw[HR.out.we.lens.1];exact HNN.out) (fun _=>rfl) (am l28 hb9.size) (fun t ht=>(hb9.cell (p:=⟨g2,t,none⟩) l28).trans (by
       rw[HE8.out t (by rw[HR.out.we.lens.1,HNN.out] at ht;exact ht),au,ap ht];rfl))
      have hHG:=HHG.out;generalize bg 0 E [] 0=ht at *;have e1:¬(20000:Int)<(N:Int):=by omega
      have e2:¬(257:Int)<(ht:Int):=by omega
      have HB9:=hid (HB8.out.trans (hb9.mono HB8.out.size));have HN9:=hid (HN8.out.below hb9 hgl8);have hgl9:=am hgl8 hb9.size;clear hb9 hna HN8 HE8 hHG
      go_wp2_with fail
      refine hh.mono ?_;rintro e w10 ⟨rfl,hb10⟩;have HB10:=hid (HB9.out.trans (hb10.mono HB9.out.size));have HN10:=hid (HN9.out.below hb10 hgl9);have hgl10:=am hgl9 hb10.size;clear hb10 hh HN9
      go_wp2
      go_ret2
      exact ⟨g,c,by rw[HNN.out];rfl,HN10.out,hgl10,HG6.out,HB10.out⟩
end
end Go.Proofs.YtapdbeaoakcjeaaGreatDoor.Se

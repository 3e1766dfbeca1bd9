import Derived.Test.YtpkfnnkbfphfbaaGreatDoorHNL
import Derived.Laws.AppendOwnNone
set_option maxRecDepth 100000
set_option maxHeartbeats 40000000
open Go.Lib (hid)
namespace Go.Proofs.YtpkfnnkbfphfbaaGreatDoor
open Go.RowKit Nmx Go.Proofs.Tryz
theorem kW {s:Nat} (hs:s<32):2 ^ s*2 ^ (32-s)=BB∧0<2 ^ s∧2 ^ s≤2147483648:=by
 refine ⟨?_,Nat.pow_pos (by omega),?_⟩
 · rw[←Nat.pow_add,show s+(32-s)=32 by omega,bj]
 · have:2 ^ s≤2 ^ 31:=Nat.pow_le_pow_right (by omega) (by omega)
   omega
theorem AW {x S T c:Nat} {s:Nat} (hS:S=2 ^ s) (hx:x<BB) (hST:S*T=BB) (hc:c<S):bits .or .u32 ((x*S % BB:Nat):Int) (c:Int)=((x*S % BB+c:Nat):Int):=by
 obtain ⟨h1,h2,h3,h4⟩:=mr hx hST hc;rw[bj] at h1;rw[u32_or_nat _ _ (by rw[bj];omega) (by omega),nat_join s _ _ (by rw[h3,hS,Nat.mul_mod_left]) (by rw[←hS];exact hc)]
theorem xU (n x:Nat) (hn:n<4294967296) (hx:x<4294967296):bits .or .u64 (x:Int) ((n:Int)*4294967296)=((x+4294967296*n:Nat):Int):=by
 have e:(n:Int)*4294967296=((n*4294967296:Nat):Int):=by omega
 rw[e,u64_or_nat _ _ (by omega) (by omega),Nat.or_comm,nat_join 32 _ _ (by omega) (by omega)]
 omega
theorem Bl (P S:Nat):(P:Int) / (S:Int) % 4294967296=((P / S % 4294967296:Nat):Int):=by rw[Int.natCast_emod,Int.natCast_ediv];rfl
def uP (a:List Nat) (s:Nat) (w:World) (e:Ending) (w':World):Prop:=∃l,e=.returned (.slice (some ⟨w.heap.size,0,none⟩) (a.length+1) (a.length+1))∧WB w' w.heap.size l∧Ws l∧l.length=a.length+1∧wv l=wv a*2 ^ s∧l.getD a.length 0<2 ^ s∧Below w.heap.size w w'
theorem jr (ao:Option Addr) (g off cap:Nat) (a:List Nat) (s:Nat) (w:World) (ha:WS w ao g off cap a) (hla:a.length≤1000001) (hs:s<32):
    Calls prog 230 #[.slice ao a.length cap,.int .u64 s] w (uP a s w):=by
 have hal:=ha.le;have ham:=ha.most;have HA:=hid ha;clear ha;have hmk:=eM (a.length+1) (by omega) ((a.length:Int)+1) (by omega);have HST:=hid (WB.new w (List.replicate (a.length+1) 0));have HBE:Hid (Below w.heap.size w (w.alloc (.cells (bT (List.replicate (a.length+1) 0)).toArray 207))):=hid ((am _ _).alloc (aj _) _);obtain ⟨p1,p2,p3⟩:=kW hs;have hsh:(2:Int) ^ s=((2 ^ s:Nat):Int):=by norm_cast
 have P1:=hid p1;have HS0:Hid (2 ^ s=2 ^ s):=hid rfl;generalize hS:2 ^ s=S at *;have HS:=hid hS;clear hS p1 HS0
 go_enter func230,ntmps230
 go_wp2
 go_loopw [6,16] (fun c i wr=>∃(k cc:Nat) (l:List Nat),k≤a.length∧i=.int .i64 k∧c=.int .u32 cc∧ShlR a l S k cc∧WB wr w.heap.size l∧Below w.heap.size w wr) (fun _ i _=>a.length-(intOf i).toNat)
 case atStart=>exact ⟨0,0,_,aM _,rfl,rfl,ShlR.start a S p2,HST.out,HBE.out⟩
 case round=>
  obtain ⟨k,cc,l,hk,rfl,rfl,hr,hwb,hbel⟩:=hrel;have HR:=hid hr;have HW:=hid hwb;have HBl:=hid hbel;have hcS:=hr.c1;have hc0:(0:Int)≤(cc:Int):=by omega
  have hll:=hr.len;have hsize:=hbel.size;clear hr hwb hbel HST HBE;have hcw:=HW.out.cell k (by omega);have hfw:=HW.out.fz k
  by_cases hlt:k<a.length
  · have had:=HA.out.ad (by omega);subst had;have hca:=HA.out.keep HBl.out hlt;have hx:=cW (i:=k) HA.out.ws;have hx0:(0:Int)≤((a.getD k 0:Nat):Int):=by omega
    have HSP:=hid (HR.out.step P1.out HA.out.ws hlt);have hxB:=HA.out.ws.getD k;obtain ⟨s1,s2,s3,s4⟩:=mr hxB P1.out hcS;have hor:=AW HS.out.symm hxB P1.out hcS;generalize a.getD k 0=x at *;generalize l.getD k 0=z at *;rw[bj] at s4;have hm1:IntKind.u64.wrap ((x:Int)*(S:Int))=((x*S:Nat):Int):=by rw[←Int.natCast_mul,IntKind.wrap_u64];omega
    generalize hPe:x*S=P at *;clear hPe s1 s2 s3;have hP0:(0:Int)≤(P:Int):=by omega
    have hP1:(P:Int)≤18446744073709551615:=by omega
    rw[←gz P _ rfl] at hor
    go_wp2
    rw[jq P _ rfl,show (P:Int) % (BB:Int)+(cc:Int)=((P % BB+cc:Nat):Int) from by rw[Int.natCast_add,Int.natCast_emod]];exact ⟨⟨k+1,P / BB,l.set k (P % BB+cc),by omega,by go_num,rfl,HSP.out,HW.out.set k _,HBl.out.setCell (aj _) _⟩,by simp[intOf];omega⟩
  · obtain rfl:k=a.length:=by omega
    obtain ⟨d1,d2,d3⟩:=HR.out.done P1.out;have D1:=hid d1;have D2:=hid d2;have D3:=hid d3;have HTOP:Hid ((l.set a.length cc).getD a.length 0<S):=hid (by rw[dr _ _ _ (by omega)];exact hcS);clear d1 d2 d3;generalize l.getD a.length 0=z at *
    go_wp2
    go_ret
    exact ⟨_,rfl,HW.out.set a.length cc,D2.out,D3.out,by rw[HS.out];exact D1.out,by rw[HS.out];exact HTOP.out,HBl.out.setCell (aj _) _⟩
def uQ (a:List Nat) (s:Nat) (w:World) (e:Ending) (w':World):Prop:=∃v l,e=.returned v∧WV w' v l∧l.length=a.length∧(∀r,wv a=r*2 ^ s→wv l=r)∧Below w.heap.size w w'
theorem mJ (ao:Option Addr) (g off cap:Nat) (a:List Nat) (s:Nat) (w:World) (ha:WS w ao g off cap a) (hla:a.length≤1000001) (hs:s<32):
    Calls prog 232 #[.slice ao a.length cap,.int .u64 s] w (uQ a s w):=by
 have hal:=ha.le;have ham:=ha.most;have HA:=hid ha;clear ha;have hmk:=eM a.length (by omega) (a.length:Int) rfl;have HST:=hid (WB.new w (List.replicate a.length 0));have HBE:Hid (Below w.heap.size w (w.alloc (.cells (bT (List.replicate a.length 0)).toArray 207))):=hid ((am _ _).alloc (aj _) _);obtain ⟨p1,p2,p3⟩:=kW hs;have hsh:(2:Int) ^ s=((2 ^ s:Nat):Int):=by norm_cast
 have P1:=hid p1;have HS0:Hid (2 ^ s=2 ^ s):=hid rfl;generalize hS:2 ^ s=S at *;have HS:=hid hS;clear hS p1 HS0
 go_enter func232,ntmps232
 go_wp2
 go_loopw [13] (fun i wr=>∃(k:Nat) (l:List Nat),k≤a.length∧i=.int .i64 k∧ShrR a l S k∧WB wr w.heap.size l∧Below w.heap.size w wr) (fun i _=>a.length-(intOf i).toNat)
 case atStart=>exact ⟨0,_,aM _,rfl,ShrR.start a S,HST.out,HBE.out⟩
 case round=>
  obtain ⟨k,l,hk,rfl,hr,hwb,hbel⟩:=hrel;have HR:=hid hr;have HW:=hid hwb;have HBl:=hid hbel;have hll:=hr.len;have hsize:=hbel.size;clear hr hwb hbel HST HBE
  by_cases hlt:k<a.length
  · have hcw:=HW.out.cell k (by omega);have hfw:=HW.out.fz k;have had:=HA.out.ad (by omega);subst had;have hca:=HA.out.keep HBl.out hlt;have hx:=cW (i:=k) HA.out.ws;have hx0:(0:Int)≤((a.getD k 0:Nat):Int):=by omega
    by_cases hl1:k+1<a.length
    · have hca1:=HA.out.keep HBl.out hl1;have hi1:((k:Int)+1).toNat=k+1:=by omega
      have hi2:(k:Int)+1<(a.length:Int):=by omega
      have hi3:(0:Int)≤(k:Int)+1:=by omega
      have hy:=cW (i:=k+1) HA.out.ws;have hy0:(0:Int)≤((a.getD (k+1) 0:Nat):Int):=by omega
      have HSP:=hid (HR.out.step P1.out p2 HA.out.ws hlt _ rfl);have hor:=xU (a.getD (k+1) 0) (a.getD k 0) (by omega) (by omega);generalize a.getD k 0=x at *;generalize a.getD (k+1) 0=y at *;generalize l.getD k 0=z at *;have hP1:x+4294967296*y<18446744073709551616:=by omega
      rw[bj] at HSP;generalize x+4294967296*y=P at *;have hP0:(0:Int)≤(P:Int):=by omega
      go_wp2
      rw[Bl P S];exact ⟨⟨k+1,_,by omega,by go_num,HSP.out,HW.out.set k _,HBl.out.setCell (aj _) _⟩,by simp[intOf];omega⟩
    · have hi2:¬(k:Int)+1<(a.length:Int):=by omega
      have HSP:=hid (HR.out.step P1.out p2 HA.out.ws hlt _ rfl);rw[jc hl1,Nat.mul_zero,Nat.add_zero] at HSP;generalize a.getD k 0=x at *;generalize l.getD k 0=z at *;rw[bj] at HSP
      go_wp2
      rw[Bl x S];exact ⟨⟨k+1,_,by omega,by go_num,HSP.out,HW.out.set k _,HBl.out.setCell (aj _) _⟩,by simp[intOf];omega⟩
  · obtain rfl:k=a.length:=by omega
    have HD:Hid (∀r,wv a=r*S→wv l=r):=hid (fun r hr=>HR.out.done r hr p2)
    go_wp2
    go_ret
    exact ⟨_,l,rfl,HW.out.ws HR.out.ws _ (by omega) (by omega),hll,by rw[HS.out];exact HD.out,HBl.out⟩
theorem xV (A u C:List Nat) (i:Nat) (hi:i<u.length):(A++u++C).getD (A.length+i) 0=u.getD i 0:=by
 simp only[aA];rw[List.append_assoc,List.getElem?_append_right (by omega),List.getElem?_append_left (by omega),show A.length+i-A.length=i by omega]
theorem zn (A u C:List Nat) (i x:Nat) (hi:i<u.length):(A++u++C).set (A.length+i) x=A++u.set i x++C:=by
 rw[List.append_assoc,List.set_append_right _ _ (by omega),show A.length+i-A.length=i by omega,List.set_append_left _ _ hi,List.append_assoc]
structure QW (w wr:World) (gu:Nat) (A u C:List Nat):Prop where
 wb:WB wr gu (A++u++C)
 gr:w.grownBy wr (some gu)
theorem QW.cell {w wr:World} {gu:Nat} {A u C:List Nat} (h:QW w wr gu A u C) (i:Nat) (hi:i<u.length):wr.cell? ⟨gu,A.length+i,none⟩=some (.int .u32 ((u.getD i 0:Nat):Int)):=by
 rw[h.wb.cell _ (by simp only[aE];omega),xV A u C i hi]
theorem QW.fz {w wr:World} {gu:Nat} {A u C:List Nat} (h:QW w wr gu A u C) (i:Nat):wr.frozen? ⟨gu,A.length+i,none⟩=false:=h.wb.fz _
theorem QW.set {w wr:World} {gu:Nat} {A u C:List Nat} (h:QW w wr gu A u C) (i x:Nat) (hi:i<u.length):QW w (wr.setCell ⟨gu,A.length+i,none⟩ (.int .u32 (x:Int))) gu A (u.set i x) C:=by
 refine ⟨?_,h.gr.os,h.gr.tape,h.gr.output,by simpa [World.setCell] using h.gr.size,fun k hk hne=>?_⟩
 · rw[←zn A u C i x hi];exact h.wb.set _ _
 · exact (aG _ _ _ _ (fun e=>hne (by rw[e]))).trans (h.gr.block k hk hne)
theorem QW.drewN {w wr:World} {gu:Nat} {A u C:List Nat} (h:QW w wr gu A u C) (n:Nat):QW w (wr.drewN n) gu A u C:=⟨h.wb,h.gr.os,h.gr.tape,h.gr.output,h.gr.size,h.gr.block⟩
theorem QW.far {w wr:World} {gu:Nat} {A u C:List Nat} (h:QW w wr gu A u C) {ao:Option Addr} {g off cap:Nat} {d:List Nat} (hd:WS w ao g off cap d) (hne:g≠gu):WS wr ao g off cap d:=
 hd.same fun hc=>h.gr.block g (hd.lt hc) (fun e=>hne (by injection e))
theorem QW.dcell {w wr:World} {gu:Nat} {A u C:List Nat} (h:QW w wr gu A u C) {ao:Option Addr} {g off cap:Nat} {d:List Nat} (hd:WS w ao g off cap d) (hne:g≠gu) (i:Nat) (hi:i<d.length):wr.cell? ⟨g,off+i,none⟩=some (.int .u32 ((d.getD i 0:Nat):Int)):=
 (h.far hd hne).at_ i hi
def xW (d u:List Nat) (gu:Nat) (A C:List Nat) (w:World) (e:Ending) (w':World):Prop:=∃u',e=.returned (.int .u32 ((wv u / wv d:Nat):Int))∧QW w w' gu A u' C∧u'.length=u.length∧Ws u'∧wv u'=wv u % wv d
structure GuessR (d u:List Nat) (q r:Nat):Prop where
 eq:q*d.getD (d.length-1) 0+r=u.getD d.length 0*BB+u.getD (d.length-1) 0
 r1:r<BB
 q1:q≤BB+1
 up:wv u<(q+1)*wv d
theorem BV {P a b x y:Nat} (ha:a<P) (hb:b<P) (h:a+P*x=b+P*y):a=b∧x=y:=by
 have h1:=congrArg (fun z=>z % P) h;simp only[Nat.add_mul_mod_self_left,Nat.mod_eq_of_lt ha,Nat.mod_eq_of_lt hb] at h1;subst h1;exact ⟨rfl,Nat.eq_of_mul_eq_mul_left (by omega) (Nat.add_left_cancel h)⟩
theorem gT (l:List Nat) (n:Nat) (hl:l.length=n+1):wv l=wv (l.take n)+BB ^ n*l.getD n 0:=by
 have:=bq l n;rw[bQ l (n+1) (by omega)] at this;exact this
theorem mK (l:List Nat) (n r:Nat) (hl:l.length=n+1):wv (l.set n r)=wv (l.take n)+BB ^ n*r:=by
 rw[gT _ n (by rw[aQ,hl]),dr _ _ _ (by omega),List.take_set,List.set_eq_of_length_le (by rw[List.length_take];omega)]
theorem lT {d u:List Nat} (hul:u.length=d.length+1) (hdl:2≤d.length) (hu:Ws u) (hd:Ws d) (hhalf:2147483648≤d.getD (d.length-1) 0) (hless:wv u<BB*wv d):
    Lead BB (d.getD (d.length-1) 0) (d.getD (d.length-2) 0) (BB ^ (d.length-2)) (wv (d.take (d.length-2))) (wv d) (u.getD d.length 0*BB+u.getD (d.length-1) 0) (u.getD (d.length-2) 0) (wv (u.take (d.length-2))) (wv u):=by
 obtain ⟨m,hm⟩:∃m,d.length=m+2:=⟨d.length-2,by omega⟩
 have i1:d.length-1=m+1:=by omega
 have i2:d.length-2=m:=by omega
 rw[i1] at hhalf;rw[i1,i2,hm];have e1:=gT d (m+1) hm;have e2:=bq d m;have e3:=gT u (m+2) (by omega);have e4:=bq u (m+1);have e5:=bq u m;have p1:BB ^ (m+1)=BB ^ m*BB:=Nat.pow_succ ..;have p2:BB ^ (m+2)=BB ^ m*BB*BB:=by rw[Nat.pow_succ,Nat.pow_succ]
 have l1:=eW _ (hd.take m);have l2:=eW _ (hu.take m);rw[List.length_take,Nat.min_eq_left (by omega)] at l1 l2;refine ⟨?_,l1,?_,l2,hd.getD _,hu.getD _,hd.getD _,by rw[bj];omega,by rw[bj];omega,hless⟩
 · rw[e1,e2,p1];grind
 · rw[e3,e4,e5,p1,p2];grind
theorem qZ {d u:List Nat} (hul:u.length=d.length+1) (hdl:2≤d.length) (hu:Ws u) (hd:Ws d) {D1:Nat} (hD:d.getD (d.length-1) 0=D1) (hhalf:2147483648≤D1) (hless:wv u<BB*wv d):∀top,top=u.getD (d.length-1) 0+4294967296*u.getD d.length 0→GuessR d u (top / D1) (top % D1):=by
 intro top ht;have hL:=lT hul hdl hu hd (by omega) hless;obtain ⟨s1,s2,s3,s4⟩:=hL.start;have et:top=u.getD d.length 0*BB+u.getD (d.length-1) 0:=by rw[ht,bj,Nat.mul_comm 4294967296];omega
 have h1:=hL.d1_lt;rw[hD,←et] at s1 s2 s3 s4;rw[hD] at h1;exact ⟨by rw[hD,←et];exact s3,by omega,s2,s1⟩
theorem GuessR.next {d u:List Nat} {q r:Nat} (h:GuessR d u q r) (hul:u.length=d.length+1) (hdl:2≤d.length) (hu:Ws u) (hd:Ws d) (hhalf:2147483648≤d.getD (d.length-1) 0) (hless:wv u<BB*wv d)
    (hc:BB≤q∨r*BB+u.getD (d.length-2) 0<q*d.getD (d.length-2) 0):0<q∧(q-1)*d.getD (d.length-1) 0+(r+d.getD (d.length-1) 0)=u.getD d.length 0*BB+u.getD (d.length-1) 0∧wv u<(q-1+1)*wv d:=by
 have hL:=lT hul hdl hu hd hhalf hless;obtain ⟨h1,h2⟩:=hL.step h.eq hc;refine ⟨h2,?_,by rw[show q-1+1=q by omega];exact h1⟩;obtain ⟨p,rfl⟩:∃p,q=p+1:=⟨q-1,by omega⟩
 rw[←h.eq,show p+1-1=p by omega,Nat.add_mul]
 omega
structure Guessed (d u:List Nat) (q:Nat):Prop where
 lt:q<BB
 up:wv u<(q+1)*wv d
 low:q*wv d≤wv u+wv d
theorem GuessR.exit1 {d u:List Nat} {q r:Nat} (h:GuessR d u q r) (hul:u.length=d.length+1) (hdl:2≤d.length) (hu:Ws u) (hd:Ws d) (hhalf:2147483648≤d.getD (d.length-1) 0) (hless:wv u<BB*wv d)
    (hq:q<BB) (hc:q*d.getD (d.length-2) 0≤r*BB+u.getD (d.length-2) 0):Guessed d u q:=
 ⟨hq,h.up,(lT hul hdl hu hd hhalf hless).exit1 h.eq hq hc⟩
theorem GuessR.exit2 {d u:List Nat} {q r:Nat} (hul:u.length=d.length+1) (hdl:2≤d.length) (hu:Ws u) (hd:Ws d) (hhalf:2147483648≤d.getD (d.length-1) 0) (hless:wv u<BB*wv d)
    (he:q*d.getD (d.length-1) 0+r=u.getD d.length 0*BB+u.getD (d.length-1) 0) (hup:wv u<(q+1)*wv d) (hq:q≤BB) (hr:BB≤r):Guessed d u q:=by
 have h1:=(lT hul hdl hu hd hhalf hless).exit2 he hq hr;refine ⟨?_,hup,by omega⟩;rcases Nat.lt_or_ge q BB with h | h
 · exact h
 · have:BB*wv d≤q*wv d:=Nat.mul_le_mul_right _ h
   omega
theorem Bm {u d u':List Nat} {q c k r:Nat} (h:SubMulR u d u' q d.length c k) (hul:u.length=d.length+1) (hr:r+c+k=u.getD d.length 0):wv (u'.set d.length r)+q*wv d=wv u:=by
 have h1:=h.last hul;rw[mK _ _ _ (by rw[h.len,hul])];rw[←hr] at h1;simp only[Nat.mul_add] at *
 omega
theorem tw {u d u':List Nat} {q c k:Nat} (h:SubMulR u d u' q d.length c k) (hul:u.length=d.length+1) (hlt:u.getD d.length 0<c+k):wv u<q*wv d:=by
 have h1:=h.last hul;have hX:=eW _ (h.ws.take d.length);rw[List.length_take,h.len,Nat.min_eq_left (by omega)] at hX;have h2:BB ^ d.length*(u.getD d.length 0+1)≤BB ^ d.length*(c+k):=Nat.mul_le_mul_left _ (by omega);rw[Nat.mul_add,Nat.mul_one] at h2
 omega
theorem zo {u d u' u3:List Nat} {q c k t c3:Nat} (h:SubMulR u d u' q d.length c k) (hul:u.length=d.length+1) (hd:Ws d) (ht:t<BB) (hte:t+c+k=u.getD d.length 0+BB) (hq:q*wv d≤wv u+wv d) (hb:BackR (u'.set d.length t) d u3 d.length c3):
    wv (u3.set d.length ((t+c3) % BB))+q*wv d=wv u+wv d:=by
 have hneg:=tw h hul (by omega);have h1:=h.last hul;have h2:=hb.val;have hl3:u3.length=d.length+1:=by rw[hb.len,aQ,h.len,hul]
 rw[bQ d _ (aj _),List.take_set,List.set_eq_of_length_le (by rw[List.length_take];omega)] at h2;have hX:=eW _ (hb.ws.take d.length);rw[List.length_take,hl3,Nat.min_eq_left (by omega)] at hX;have hD:=eW _ hd;have e1:BB ^ d.length*(t+c+k)=BB ^ d.length*(u.getD d.length 0+BB):=by rw[hte]
 obtain ⟨R,hR⟩:∃R,R+q*wv d=wv u+wv d:=⟨wv u+wv d-q*wv d,by omega⟩
 obtain ⟨e,he⟩:∃e,t+e=BB:=⟨BB-t,by omega⟩
 have e2:BB ^ d.length*(t+e)=BB ^ d.length*BB:=by rw[he]
 have h3:wv (u3.take d.length)+BB ^ d.length*c3=R+BB ^ d.length*e:=by
  simp only[Nat.mul_add] at *
  omega
 obtain ⟨h4,h5⟩:=BV hX (by omega) h3;subst h5;rw[he,Nat.mod_self,mK _ _ _ hl3,Nat.mul_zero,Nat.add_zero,h4];exact hR
theorem uR {a b:Nat} (h:a=b):Ending.returned (.int .u32 (b:Int))=.returned (.int .u32 (a:Int)):=by rw[h]
theorem oB (x y c:Nat) (hx:x<4294967296) (hy:y<4294967296) (hc:c≤1):
    ∃T1 T2:Nat,IntKind.u64.wrap ((x:Int)-(y:Int))=T1∧IntKind.u64.wrap ((T1:Int)-(c:Int))=T2∧T1<18446744073709551616∧T2<18446744073709551616∧T2 / 9223372036854775808≤1∧T2 % 4294967296+y+c=x+4294967296*(T2 / 9223372036854775808):=by
 by_cases h1:x<y
 · by_cases h2:x<y+c
   · exact ⟨18446744073709551616+x-y,18446744073709551616+x-y-c,by rw[IntKind.wrap_u64];omega,by rw[IntKind.wrap_u64];omega,by omega,by omega,by omega,by omega⟩
   · omega
 · by_cases h2:x<y+c
   · exact ⟨x-y,18446744073709551616+x-y-c,by rw[IntKind.wrap_u64];omega,by rw[IntKind.wrap_u64];omega,by omega,by omega,by omega,by omega⟩
   · exact ⟨x-y,x-y-c,by rw[IntKind.wrap_u64];omega,by rw[IntKind.wrap_u64];omega,by omega,by omega,by omega,by omega⟩
theorem kX (gu capu:Nat) (A u C:List Nat) (dao:Option Addr) (gd offd capd:Nat) (d:List Nat) (w:World) (hU:QW w w gu A u C) (hd:WS w dao gd offd capd d) (hne:gd≠gu) (hul:u.length=d.length+1) (hdl:2≤d.length)
    (hcu:d.length+1≤capu) (hcm:capu≤1000000000) (hu:Ws u) (hhalf:2147483648≤d.getD (d.length-1) 0) (hless:wv u<BB*wv d):
    Calls prog 231 #[.slice (some ⟨gu,A.length,none⟩) (d.length+1) capu,.slice dao d.length capd] w (xW d u gu A C w):=by
 have hdc:=hd.le;have hdm:=hd.most;have had:=hd.ad (by omega);subst had;have HD:=hid hd;have HU:=hid hU;have HNE:=hid hne;have n0:(0:Int)≤(d.length:Int)-1:=by omega
 have n1:((d.length:Int)-1).toNat=d.length-1:=by omega
 have n2:(0:Int)≤(d.length:Int)-2:=by omega
 have n3:((d.length:Int)-2).toNat=d.length-2:=by omega
 have n4:(d.length:Int)-1<(d.length:Int)+1:=by omega
 have n5:(d.length:Int)-2<(d.length:Int)+1:=by omega
 have n6:(d.length:Int)<(d.length:Int)+1:=by omega
 have cu1:=hU.cell d.length (by omega);have cu2:=hU.cell (d.length-1) (by omega);have cd1:=hU.dcell hd hne (d.length-1) (by omega);have x1:=cW (i:=d.length) hu;have x2:=cW (i:=d.length-1) hu;have y1:=cW (i:=d.length-1) hd.ws;clear hU hd hne
 go_enter func231,ntmps231
 generalize hD1:d.getD (d.length-1) 0=D1 at *;have z1:(0:Int)≤((u.getD d.length 0:Nat):Int):=by omega
 have z2:(0:Int)≤((u.getD (d.length-1) 0:Nat):Int):=by omega
 have hor:=jY (u.getD d.length 0) (u.getD (d.length-1) 0) (by omega) (by omega);have HGE:Hid (∀top,top=u.getD (d.length-1) 0+4294967296*u.getD d.length 0→GuessR d u (top / D1) (top % D1)):=hid (qZ hul hdl hu HD.out.ws hD1 hhalf hless);generalize u.getD d.length 0=U1 at *;generalize u.getD (d.length-1) 0=U2 at *;have hT:U2+4294967296*U1<18446744073709551616:=by omega
 have HG0:=hid (HGE.out _ rfl);generalize U2+4294967296*U1=T at *;have t0:(0:Int)≤(T:Int):=by omega
 have d0:(0:Int)<(D1:Int):=by omega
 have d00:((D1:Int)==0)=false:=by simp;omega
 have hwq:IntKind.u64.wrap ((T:Int) / (D1:Int))=((T / D1:Nat):Int):=by
  have h1:T / D1≤T:=Nat.div_le_self _ _;obtain ⟨Q,hQ⟩:∃Q,T / D1=Q:=⟨_,rfl⟩
  rw[←Int.natCast_ediv,IntKind.wrap_u64,hQ];rw[hQ] at h1;omega
 have n7:(d.length:Int)-1<(d.length:Int):=by omega
 have n8:(d.length:Int)-2<(d.length:Int):=by omega
 have y2:=cW (i:=d.length-2) HD.out.ws;have y20:(0:Int)≤((d.getD (d.length-2) 0:Nat):Int):=by omega
 have x3:=cW (i:=d.length-2) hu;have x30:(0:Int)≤((u.getD (d.length-2) 0:Nat):Int):=by omega
 go_wp2
 go_quiet (fail)
 go_wp2
 go_quiet (fail)
 go_upto_block 0 with fail
 go_cut [7] (fun qv wx=>∃q:Nat,qv=.int .u64 q∧Guessed d u q∧QW w wx gu A u C)
 case first=>
  go_wp2
  go_loopw [7,8] (fun qv rv wr=>∃q r:Nat,qv=.int .u64 q∧rv=.int .u64 r∧GuessR d u q r∧QW w wr gu A u C) (fun qv _ _=>(intOf qv).toNat)
  case atStart=>exact ⟨T / D1,T % D1,rfl,rfl,HG0.out,(HU.out.drewN _).drewN _⟩
  case round=>
   obtain ⟨q,r,rfl,rfl,hg,hqw⟩:=hrel;have cu3:=hqw.cell (d.length-2) (by omega);have cd1':=hqw.dcell HD.out HNE.out (d.length-1) (by omega);rw[hD1] at cd1';have cd2:=hqw.dcell HD.out HNE.out (d.length-2) (by omega);have HG:=hid hg;have HQ:=hid hqw;have hr1:=hg.r1;rw[bj] at hr1;have r0:(0:Int)≤(r:Int):=by omega
   have q0:(0:Int)≤(q:Int):=by omega
   have q9:(q:Int)≤4294967297:=by have:=hg.q1;rw[bj] at this;omega
   clear hg hqw cu1 cu2 cd1;have hor:=jY r (u.getD (d.length-2) 0) (by omega) (by omega)
   by_cases hqB:4294967296≤q
   · have hqb:((q:Int) / 4294967296 !=0)=true:=by simp;omega
     obtain ⟨hq0,he,hup⟩:=HG.out.next hul hdl hu HD.out.ws (by rw[hD1];exact hhalf) hless (.inl (by rw[bj];exact hqB));rw[hD1] at he;have HE:=hid he;have HUP:=hid hup;have hqs:IntKind.u64.wrap ((q:Int)-1)=((q-1:Nat):Int):=by rw[IntKind.wrap_u64];have:=HG.out.q1;rw[bj] at this;omega
     have hq1:q≤BB+1:=HG.out.q1;clear he hup;obtain ⟨p,hp⟩:∃p,q-1=p:=⟨_,rfl⟩
     rw[hp] at HE HUP hqs
     by_cases hr2:4294967296≤r+D1
     · have hrb:(((r:Int)+(D1:Int)) / 4294967296 !=0)=true:=by simp;omega
       have HX:Hid (Guessed d u p):=hid (GuessR.exit2 hul hdl hu HD.out.ws (by rw[hD1];exact hhalf) hless (by rw[hD1];exact HE.out) HUP.out (by omega) (by rw[bj];exact hr2))
       go_wp2
       go_quiet (fail)
       go_wp2
       go_meet
       exact ⟨p,rfl,HX.out,HQ.out.drewN _⟩
     · have hrb:(((r:Int)+(D1:Int)) / 4294967296 !=0)=false:=by simp;omega
       go_wp2
       go_quiet (fail)
       go_wp2
       exact ⟨⟨p,r+D1,rfl,rfl,⟨by rw[hD1];exact HE.out,by rw[bj];omega,by omega,HUP.out⟩,HQ.out.drewN _⟩,by simp[intOf];omega⟩
   · have hqb:((q:Int) / 4294967296 !=0)=false:=by simp;omega
     have hP1:q*d.getD (d.length-2) 0<18446744073709551616:=by
      have:=ip q (d.getD (d.length-2) 0) 0 0 (by rw[bj];omega) (HD.out.ws.getD _) bF bF;rw[bj] at this;omega
     have hmul:IntKind.u64.wrap ((q:Int)*((d.getD (d.length-2) 0:Nat):Int))=((q*d.getD (d.length-2) 0:Nat):Int):=by rw[←Int.natCast_mul,IntKind.wrap_u64];omega
     by_cases hgt:u.getD (d.length-2) 0+4294967296*r<q*d.getD (d.length-2) 0
     · have hgi:((u.getD (d.length-2) 0+4294967296*r:Nat):Int)<((q*d.getD (d.length-2) 0:Nat):Int):=by omega
       have HCD:Hid (r*BB+u.getD (d.length-2) 0<q*d.getD (d.length-2) 0):=hid (by rw[bj,Nat.mul_comm r];omega);obtain ⟨hq0,he,hup⟩:=HG.out.next hul hdl hu HD.out.ws (by rw[hD1];exact hhalf) hless (.inr HCD.out);rw[hD1] at he;have HE:=hid he;have HUP:=hid hup;have hqs:IntKind.u64.wrap ((q:Int)-1)=((q-1:Nat):Int):=by rw[IntKind.wrap_u64];have:=HG.out.q1;rw[bj] at this;omega
       have hq1:q≤BB+1:=HG.out.q1;clear he hup;obtain ⟨p,hp⟩:∃p,q-1=p:=⟨_,rfl⟩
       rw[hp] at HE HUP hqs;clear HCD hgt;have hP0:(0:Int)≤((q*d.getD (d.length-2) 0:Nat):Int):=by omega
       generalize d.getD (d.length-2) 0=D2 at *;generalize u.getD (d.length-2) 0=U3 at *;generalize q*D2=P at *;generalize U3+4294967296*r=R at *
       by_cases hr2:4294967296≤r+D1
       · have hrb:(((r:Int)+(D1:Int)) / 4294967296 !=0)=true:=by simp;omega
         have HX:Hid (Guessed d u p):=hid (GuessR.exit2 hul hdl hu HD.out.ws (by rw[hD1];exact hhalf) hless (by rw[hD1];exact HE.out) HUP.out (by omega) (by rw[bj];exact hr2))
         go_wp2
         go_quiet (fail)
         go_wp2
         go_meet
         exact ⟨p,rfl,HX.out,HQ.out.drewN _⟩
       · have hrb:(((r:Int)+(D1:Int)) / 4294967296 !=0)=false:=by simp;omega
         go_wp2
         go_quiet (fail)
         go_wp2
         exact ⟨⟨p,r+D1,rfl,rfl,⟨by rw[hD1];exact HE.out,by rw[bj];omega,by omega,HUP.out⟩,HQ.out.drewN _⟩,by simp[intOf];omega⟩
     · have hgi:¬((u.getD (d.length-2) 0+4294967296*r:Nat):Int)<((q*d.getD (d.length-2) 0:Nat):Int):=by omega
       have HX:Hid (Guessed d u q):=hid (HG.out.exit1 hul hdl hu HD.out.ws (by rw[hD1];exact hhalf) hless (by rw[bj];omega) (by rw[bj,Nat.mul_comm r];omega));clear hgt;generalize d.getD (d.length-2) 0=D2 at *;generalize u.getD (d.length-2) 0=U3 at *;generalize q*D2=P at *;generalize U3+4294967296*r=R at *
       go_wp2
       go_quiet (fail)
       go_wp2
       go_meet
       exact ⟨q,rfl,HX.out,HQ.out.drewN _⟩
 case rest=>
  obtain ⟨q,rfl,hgd,hqw⟩:=hcut;have HG:=hid hgd;have HQ:=hid hqw;have hq32:q<4294967296:=by have:=hgd.lt;rw[bj] at this;exact this
  have q0:(0:Int)≤(q:Int):=by omega
  clear hgd hqw cu1 cu2 cd1 hor HG0 HGE hwq HU
  go_wp2
  go_loopw [9,10,86] (fun bv cv iv wr=>∃(i c k:Nat) (u':List Nat),i≤d.length∧iv=.int .i64 i∧bv=.int .u64 k∧cv=.int .u64 c∧SubMulR u d u' q i c k∧QW w wr gu A u' C) (fun _ _ iv _=>d.length-(intOf iv).toNat)
  case atStart=>exact ⟨0,0,0,u,aM _,rfl,rfl,rfl,SubMulR.start u d q hu,HQ.out⟩
  case round=>
   obtain ⟨i,c,k,u',hi,rfl,rfl,rfl,hs,hqw⟩:=hrel;have HS:=hid hs;have HQ2:=hid hqw;have hc1:c<4294967296:=by have:=hs.c1;rw[bj] at this;exact this
   have hk1:=hs.k1;have hul':u'.length=u.length:=hs.len;have c0:(0:Int)≤(c:Int):=by omega
   have k0:(0:Int)≤(k:Int):=by omega
   clear HQ
   by_cases hlt:i<d.length
   · have cd:=hqw.dcell HD.out HNE.out i hlt;have cu:=hqw.cell i (by omega);have cf:=hqw.fz i;have hrest:=hs.rest i (aj _);rw[hrest] at cu;have hx:=HD.out.ws.getD i;have hy:=hu.getD i
     have hP1:q*d.getD i 0+c<18446744073709551616:=by
      have:=ip q (d.getD i 0) 0 c (by rw[bj];exact hq32) hx bF hs.c1;rw[bj] at this;omega
     have HSP:=hid (fun r k' hr hk he=>hs.step HD.out.ws (by rw[bj];exact hq32) hlt (by omega) _ rfl r k' hr hk he);rw[bj] at hx hy;have hmul:IntKind.u64.wrap ((q:Int)*((d.getD i 0:Nat):Int))=((q*d.getD i 0:Nat):Int):=by rw[←Int.natCast_mul,IntKind.wrap_u64];omega
     clear hs hqw hrest;generalize hye:u.getD i 0=y at *;generalize hxe:d.getD i 0=x at *;generalize hMe:q*x=M at *;clear hye hxe hMe;have M0:(0:Int)≤(M:Int):=by omega
     have M1:(M:Int)+(c:Int)≤18446744073709551615:=by omega
     have x0:(0:Int)≤(x:Int):=by omega
     have x9:(x:Int)≤4294967295:=by omega
     have y0:(0:Int)≤(y:Int):=by omega
     have y9:(y:Int)≤4294967295:=by omega
     obtain ⟨pm,hpm⟩:∃pm,(M+c) % 4294967296=pm:=⟨_,rfl⟩
     have hand:bits .and .u64 ((M:Int)+(c:Int)) 4294967295=(pm:Int):=by rw[and_low32 _ (by omega) (by omega)];omega
     have hpm9:pm<4294967296:=by omega
     obtain ⟨T1,T2,w1,w2,t1,t2,t3,t4⟩:=oB y pm k hy hpm9 hk1;have HST:Hid (SubMulR u d (u'.set i (T2 % BB)) q (i+1) ((M+c) / BB) (T2 / 9223372036854775808)):=hid (HSP.out (T2 % BB) (T2 / 9223372036854775808) (Nat.mod_lt _ bF) t3 (by rw[bj,hpm];exact t4)).1;have T10:(0:Int)≤(T1:Int):=by omega
     have T20:(0:Int)≤(T2:Int):=by omega
     have T29:(T2:Int)≤18446744073709551615:=by omega
     have pm0:(0:Int)≤(pm:Int):=by omega
     clear hpm t3 t4 HSP
     go_wp2
     rw[AT T2 _ rfl,gz T2 _ rfl,jq (M+c) _ (by omega)];exact ⟨⟨i+1,(M+c) / BB,_,u'.set i (T2 % BB),by omega,by go_num,rfl,rfl,HST.out,HQ2.out.set i _ (by omega)⟩,by simp[intOf];omega⟩
   · obtain rfl:i=d.length:=by omega
     have cu:=hqw.cell d.length (by omega);have cf:=hqw.fz d.length;have hrest:=hs.rest d.length (aj _);rw[hrest] at cu;have hy:=hu.getD d.length;rw[bj] at hy;obtain ⟨T1,T2,w1,w2,t1,t2,t3,t4⟩:=oB (u.getD d.length 0) c k hy hc1 hk1;have HU1:Hid (T2 % 4294967296+c+k=u.getD d.length 0+4294967296*(T2 / 9223372036854775808)):=hid t4;have HQ3:=hid (hqw.set d.length (T2 % BB) (by omega));have HLE:Hid (u'.length=d.length+1):=hid (by omega);clear hs hqw hrest t4;generalize hye:u.getD d.length 0=y at *;have HY:=hid hye;clear hye;have y0:(0:Int)≤(y:Int):=by omega
     have y9:(y:Int)≤4294967295:=by omega
     have T10:(0:Int)≤(T1:Int):=by omega
     have T20:(0:Int)≤(T2:Int):=by omega
     have T29:(T2:Int)≤18446744073709551615:=by omega
     obtain ⟨f1,f2⟩:(T2 / 9223372036854775808=0→wv (u'.set d.length (T2 % BB))+q*wv d=wv u)∧(¬T2 / 9223372036854775808=0→y<c+k):=by
      refine ⟨fun h=>Bm HS.out hul (by rw[HY.out,bj];have:=HU1.out;omega),fun h=>?_⟩;have:=HU1.out
      omega
     have F1:=hid f1;have F2:=hid f2;clear f1 f2
     by_cases hneg:T2 / 9223372036854775808=0
     · have hnb:((T2:Int) / 9223372036854775808==0)=true:=by simp;omega
       have HV:=hid (F1.out hneg)
       have HR:Hid (wv u / wv d=q∧wv (u'.set d.length (T2 % BB))=wv u % wv d):=hid (by
        have:=HV.out;rcases nZ HG.out.up HG.out.low with ⟨g1,g2,g3⟩ | ⟨g1,_⟩
        · exact ⟨g2,by omega⟩
        · omega)
       clear hneg
       go_wp2
       rw[gz T2 _ rfl]
       go_ret
       exact ⟨_,uR HR.out.1,HQ3.out,by rw[aQ];exact hul',HS.out.ws.set _ (Nat.mod_lt _ bF),HR.out.2⟩
     · have hnb:((T2:Int) / 9223372036854775808==0)=false:=by simp;omega
       have hlt2:=F2.out hneg
       have hq0:0<q:=by
        rcases Nat.eq_zero_or_pos q with h | h
        · have h2:=tw HS.out hul (by rw[HY.out];exact hlt2);rw[h] at h2;omega
        · exact h
       have hqs:IntKind.u64.wrap ((q:Int)-1)=((q-1:Nat):Int):=by rw[IntKind.wrap_u64];omega
       have HR:Hid (wv u / wv d=q-1∧wv u % wv d+q*wv d=wv u+wv d):=hid (by
        have h2:=tw HS.out hul (by rw[HY.out];exact hlt2);rcases nZ HG.out.up HG.out.low with ⟨g1,g2,g3⟩ | ⟨g1,g2,g3,g4⟩
        · omega
        · have:=HG.out.low
          exact ⟨g3,by omega⟩)
       have HTE:Hid (T2 % BB+c+k=u.getD d.length 0+BB):=hid (by
        rw[HY.out,bj];have:=HU1.out;have:T2 / 9223372036854775808=1:=by omega
        omega)
       have HB0:Hid (BackR (u'.set d.length (T2 % BB)) d (u'.set d.length (T2 % BB)) 0 0):=hid (BackR.start _ d (HS.out.ws.set _ (Nat.mod_lt _ bF)));have HW2:Hid (Ws (u'.set d.length (T2 % BB))):=hid (HS.out.ws.set _ (Nat.mod_lt _ bF));have HG2:Hid ((u'.set d.length (T2 % BB)).getD d.length 0=T2 % BB):=hid (dr _ _ _ (by have:=HLE.out;omega));have HL2:Hid ((u'.set d.length (T2 % BB)).length=d.length+1):=hid (by rw[aQ];exact HLE.out);have HBK:=hid (fun u3 c3 (hb:BackR (u'.set d.length (T2 % BB)) d u3 d.length c3)=>zo HS.out hul HD.out.ws (Nat.mod_lt _ bF) HTE.out HG.out.low hb);obtain ⟨qm,hqm⟩:∃qm,q-1=qm:=⟨_,rfl⟩
       rw[hqm] at hqs HR;have hqm9:qm<4294967296:=by omega
       have hqm0:(0:Int)≤(qm:Int):=by omega
       obtain ⟨t,htd⟩:∃t,T2 % BB=t:=⟨_,rfl⟩
       have htc:(T2:Int) % 4294967296=(t:Int):=by rw[←htd,bj];omega
       have ht9:t<4294967296:=by rw[←htd,bj];omega
       rw[htd] at HQ3 HG2 HL2 HBK HB0 HW2;generalize u'.set d.length t=u2 at *;clear hneg F1 F2 HU1 HTE HLE htd HS HQ2 hlt2;have hl2:=HL2.out
       go_wp2
       clear cu cf;have HQ4:=HQ3.out;generalize wr.setCell ⟨gu,A.length+d.length,none⟩ (.int .u32 (t:Int))=w4 at *;have HQ5:=hid HQ4;clear HQ3 HQ4
       go_loopw [10,139] (fun cv iv wr=>∃(i c3:Nat) (u3:List Nat),i≤d.length∧iv=.int .i64 i∧cv=.int .u64 c3∧BackR u2 d u3 i c3∧QW w wr gu A u3 C) (fun _ iv _=>d.length-(intOf iv).toNat)
       case atStart=>exact ⟨0,0,u2,aM _,rfl,rfl,HB0.out,HQ5.out⟩
       case round=>
        obtain ⟨i,c3,u3,hi,rfl,rfl,hb,hqw⟩:=hrel;have HB:=hid hb;have HQ6:=hid hqw;have hl3:u3.length=d.length+1:=by rw[hb.len];exact hl2
        have hc3:=hb.c1;have c30:(0:Int)≤(c3:Int):=by omega
        have hrest:=hb.rest i (aj _);have cu:=hqw.cell i (by omega);have cf:=hqw.fz i;rw[hrest] at cu;clear HQ5 HB0
        by_cases hlt:i<d.length
        · have cd:=hqw.dcell HD.out HNE.out i hlt;have hx:=cW (i:=i) HD.out.ws;have hy:=cW (i:=i) HW2.out;have hx0:(0:Int)≤((d.getD i 0:Nat):Int):=by omega
          have hy0:(0:Int)≤((u2.getD i 0:Nat):Int):=by omega
          have HSP:=hid (hb.step HW2.out HD.out.ws hlt (by omega) _ rfl);clear hb hqw hrest;generalize d.getD i 0=x at *;generalize u2.getD i 0=y at *
          go_wp2
          go_quiet (fail)
          go_wp2
          rw[jq (y+x+c3) _ (by omega),gz (y+x+c3) _ (by omega)];exact ⟨⟨i+1,_,u3.set i ((y+x+c3) % BB),by omega,by go_num,rfl,HSP.out,(HQ6.out.drewN _).set i _ (by omega)⟩,by simp[intOf];omega⟩
        · obtain rfl:i=d.length:=by omega
          rw[HG2.out] at cu;have HV:=hid (HBK.out u3 c3 hb);have hw32:IntKind.u32.wrap ((t:Int)+(c3:Int))=(((t+c3) % BB:Nat):Int):=by rw[IntKind.wrap_u32,bj];omega
          clear hb hqw hrest;have t0:(0:Int)≤(t:Int):=by omega
          go_wp2
          go_ret
          exact ⟨_,uR HR.out.1,HQ6.out.set d.length _ (by omega),by rw[aQ];omega,HB.out.ws.set _ (Nat.mod_lt _ bF),Nat.add_right_cancel (HV.out.trans HR.out.2.symm)⟩
theorem j9 (l:List Nat) (n:Nat) (h:wv l<BB ^ n):wv (l.drop n)=0:=by
 rcases Nat.lt_or_ge n l.length with hn | hn
 · have h1:=io l n;rw[Nat.min_eq_left (by omega)] at h1;rcases Nat.eq_zero_or_pos (wv (l.drop n)) with h2 | h2
   · exact h2
   · have:BB ^ n*1≤BB ^ n*wv (l.drop n):=Nat.mul_le_mul_left _ h2
     omega
 · rw[List.drop_of_length_le hn];rfl
structure LongR (A d Q U:List Nat) (k:Nat):Prop where
 lenQ:Q.length+d.length=A.length
 lenU:U.length=A.length
 wsQ:Ws Q
 wsU:Ws U
 low:∀i,i<k→U.getD i 0=A.getD i 0
 less:wv (U.drop k)<wv d
 val:wv (Q.drop k)*wv d+wv (U.drop k)=wv (A.drop k)
theorem LongR.start {A d:List Nat} {m:Nat} (hA:Ws A) (hl:m+1+d.length=A.length) (h:wv (A.drop (m+1))<wv d):LongR A d (List.replicate (m+1) 0) A (m+1):=
 ⟨by rw[List.length_replicate];exact hl,rfl,Ws.zeros _,hA,fun _ _=>rfl,h,by rw[List.drop_of_length_le (by rw[List.length_replicate];exact aj _)];simp[dh]⟩
theorem LongR.window {A d Q U:List Nat} {j:Nat} (h:LongR A d Q U (j+1)) (hd:Ws d) (hj:j<Q.length):
    U=U.take j++(U.drop j).take (d.length+1)++U.drop (j+d.length+1)∧(U.take j).length=j∧((U.drop j).take (d.length+1)).length=d.length+1∧Ws ((U.drop j).take (d.length+1))∧wv ((U.drop j).take (d.length+1))=wv (U.drop j)∧wv (U.drop j)<BB*wv d∧wv (U.drop (j+d.length+1))=0:=by
 have h1:=h.lenQ;have h2:=h.lenU
 have hz:wv (U.drop (j+d.length+1))=0:=by
  have h3:=eW d hd;have h4:=j9 (U.drop (j+1)) d.length (by have:=h.less;omega);rwa [List.drop_drop,show j+1+d.length=j+d.length+1 by omega] at h4
 have e1:(U.drop j).drop (d.length+1)=U.drop (j+d.length+1):=by rw[List.drop_drop,Nat.add_assoc]
 have e2:=io (U.drop j) (d.length+1);rw[e1,hz,Nat.mul_zero,Nat.add_zero] at e2;refine ⟨?_,by rw[List.length_take];omega,by rw[List.length_take,List.length_drop];omega,(h.wsU.drop j).take _,e2.symm,?_,hz⟩
 · rw[←e1,List.append_assoc,List.take_append_drop,List.take_append_drop]
 · rw[cN U j (by omega)];have h5:=h.wsU.getD j;have h6:BB*(wv (U.drop (j+1))+1)≤BB*wv d:=Nat.mul_le_mul_left _ h.less;rw[Nat.mul_add,Nat.mul_one] at h6
   omega
theorem LongR.step {A d Q U:List Nat} {j:Nat} (h:LongR A d Q U (j+1)) (hd:Ws d) (hj:j<Q.length) (u':List Nat) (hl:u'.length=d.length+1) (hw:Ws u') (hv:wv u'=wv ((U.drop j).take (d.length+1)) % wv d):
    LongR A d (Q.set j (wv ((U.drop j).take (d.length+1)) / wv d)) (U.take j++u'++U.drop (j+d.length+1)) j:=by
 obtain ⟨w1,w2,w3,w4,w5,w6,w7⟩:=h.window hd hj;have h1:=h.lenQ;have h2:=h.lenU;rw[w5] at hv ⊢;have hd0:0<wv d:=by have:=h.less;omega
 have hq:wv (U.drop j) / wv d<BB:=(Nat.div_lt_iff_lt_mul hd0).2 w6
 have e3:(U.take j++u'++U.drop (j+d.length+1)).drop j=u'++U.drop (j+d.length+1):=by
  rw[List.append_assoc,List.drop_append_of_le_length (by omega),List.drop_of_length_le (by omega),List.nil_append]
 have e4:wv (u'++U.drop (j+d.length+1))=wv (U.drop j) % wv d:=by rw[kF,w7,Nat.mul_zero,Nat.add_zero,hv]
 refine ⟨by rw[aQ];exact h1,by simp only[aE,List.length_drop,w2,hl];omega,h.wsQ.set _ hq,((h.wsU.take j).append hw).append (h.wsU.drop _),fun i hi=>?_,?_,?_⟩
 · rw[←h.low i (by omega)];simp only[aA];rw[List.append_assoc,List.getElem?_append_left (by omega),List.getElem?_take,aF hi]
 · rw[e3,e4];exact Nat.mod_lt _ hd0
 · rw[e3,e4,cN (Q.set j _) j (by rw[aQ];exact hj),dr Q j _ hj,List.drop_set_of_lt (by omega),cN A j (by omega),←h.low j (by omega),←h.val];have h8:=Nat.mod_add_div (wv (U.drop j)) (wv d);have h9:=cN U j (by omega);rw[Nat.add_mul,Nat.mul_add BB,←Nat.mul_assoc BB,Nat.mul_comm (wv (U.drop j) / wv d)]
   omega
theorem LongR.done {A d Q U:List Nat} (h:LongR A d Q U 0):wv Q=wv A / wv d∧wv U=wv A % wv d:=by
 have h1:=h.val;have h2:=h.less;rw[List.drop_zero] at h1 h2;rw[List.drop_zero,List.drop_zero] at h1;have hd0:0<wv d:=by omega
 rw[←h1];refine ⟨?_,?_⟩
 · rw[Nat.mul_comm,Nat.mul_add_div hd0,Nat.div_eq_of_lt h2,Nat.add_zero]
 · rw[Nat.mul_comm,Nat.mul_add_mod,Nat.mod_eq_of_lt h2]
theorem tA (x:Nat):x≠0→x<2 ^ 64→∃L,Lib.bitLen x=L+1∧2 ^ L≤x∧x<2 ^ (L+1):=by
 induction x using Nat.strongRecOn with
 | _ x ih=>
   intro h0 hx;rw[Lib.bitLen_half x h0 hx]
   by_cases h1:x / 2=0
   · obtain rfl:x=1:=by omega
     exact ⟨0,by decide,by decide,by decide⟩
   · obtain ⟨L,e,l1,l2⟩:=ih (x / 2) (by omega) h1 (by omega);exact ⟨L+1,by rw[e];omega,by rw[Nat.pow_succ];omega,by rw[Nat.pow_succ];omega⟩
theorem tB {b:List Nat} {n:Nat} (hb:Ws b) (hl:b.length=n+1) {s L:Nat} (h1:2 ^ L≤b.getD n 0) (h2:b.getD n 0<2 ^ (L+1)) (hs:s+(L+1)=32):wv b*2 ^ s<BB ^ (n+1)∧2147483648*BB ^ n≤wv b*2 ^ s:=by
 have e1:=gT b n hl;have l1:=eW _ (hb.take n);rw[List.length_take,Nat.min_eq_left (by omega)] at l1;have p1:2 ^ s*2 ^ (L+1)=BB:=by rw[←Nat.pow_add,hs,bj]
 have p2:2 ^ s*2 ^ L=2147483648:=by rw[←Nat.pow_add,show s+L=31 by omega]
 have p3:0<2 ^ s:=Nat.pow_pos (by omega);have a1:BB ^ n*(b.getD n 0+1)≤BB ^ n*2 ^ (L+1):=Nat.mul_le_mul_left _ h2;have a2:BB ^ n*2 ^ L≤BB ^ n*b.getD n 0:=Nat.mul_le_mul_left _ h1;rw[Nat.mul_add,Nat.mul_one] at a1;have a3:wv b<BB ^ n*2 ^ (L+1):=by omega
 have a4:BB ^ n*2 ^ L≤wv b:=by omega
 refine ⟨?_,?_⟩
 · have a5:wv b*2 ^ s<BB ^ n*2 ^ (L+1)*2 ^ s:=Nat.mul_lt_mul_of_pos_right a3 p3;rw[Nat.mul_assoc,Nat.mul_comm (2 ^ (L+1)),p1,←Nat.pow_succ] at a5;exact a5
 · have a6:BB ^ n*2 ^ L*2 ^ s≤wv b*2 ^ s:=Nat.mul_le_mul_right _ a4;rw[Nat.mul_assoc,Nat.mul_comm (2 ^ L),p2,Nat.mul_comm] at a6;exact a6
theorem ra {l:List Nat} {n:Nat} (hl:l.length=n+2) (hw:Ws l) (h:wv l<BB ^ (n+1)) (hlow:2147483648*BB ^ n≤wv l):wv (l.take (n+1))=wv l∧2147483648≤(l.take (n+1)).getD n 0∧(l.take (n+1)).length=n+1:=by
 have e1:=gT l (n+1) hl
 have h0:l.getD (n+1) 0=0:=by
  rcases Nat.eq_zero_or_pos (l.getD (n+1) 0) with h2 | h2
  · exact h2
  · have:BB ^ (n+1)*1≤BB ^ (n+1)*l.getD (n+1) 0:=Nat.mul_le_mul_left _ h2
    omega
 rw[h0,Nat.mul_zero,Nat.add_zero] at e1;have hlen:(l.take (n+1)).length=n+1:=by rw[List.length_take];omega
 refine ⟨e1.symm,?_,hlen⟩;have e2:=gT (l.take (n+1)) n hlen;have l1:=eW _ ((hw.take (n+1)).take n);rw[List.length_take,hlen,Nat.min_eq_left (by omega)] at l1;rcases Nat.lt_or_ge ((l.take (n+1)).getD n 0) 2147483648 with h3 | h3
 · exfalso
   have:BB ^ n*((l.take (n+1)).getD n 0+1)≤BB ^ n*2147483648:=Nat.mul_le_mul_left _ h3;rw[Nat.mul_add,Nat.mul_one] at this;have e3:=Nat.mul_comm (BB ^ n) 2147483648
   omega
 · exact h3
theorem tC {A d:List Nat} {m n:Nat} (hl:A.length=m+1+(n+1)) (hA:Ws A) (htop:A.getD (m+1+n) 0<2147483648) (hlow:2147483648*BB ^ n≤wv d):wv (A.drop (m+1))<wv d:=by
 have hlen:(A.drop (m+1)).length=n+1:=by rw[List.length_drop];omega
 have e1:=gT _ n hlen;have e2:(A.drop (m+1)).getD n 0=A.getD (m+1+n) 0:=by simp only[aA,List.getElem?_drop]
 have l1:=eW _ ((hA.drop (m+1)).take n);rw[List.length_take,hlen,Nat.min_eq_left (by omega)] at l1;rw[e2] at e1;have:BB ^ n*(A.getD (m+1+n) 0+1)≤BB ^ n*2147483648:=Nat.mul_le_mul_left _ htop;rw[Nat.mul_add,Nat.mul_one] at this;have e3:=Nat.mul_comm (BB ^ n) 2147483648
 omega
theorem WB.wsTake {w:World} {g:Nat} {l:List Nat} (h:WB w g l) (hl:Ws l) (k:Nat) (hk:k≤l.length) (hm:l.length≤1000000000):WS w (some ⟨g,0,none⟩) g 0 l.length (l.take k):=by
 have e:(l.take k).length=k:=by rw[List.length_take];omega
 refine ⟨by omega,by omega,fun _=>rfl,(fun h=>by cases h),fun _=>⟨_,_,h⟩,fun i hi=>?_,hl.take k⟩;rw[e] at hi;rw[Nat.zero_add,h.cell i (by omega)]
 congr 2
 simp only[aA];rw[List.getElem?_take,aF hi]
def kc (x y la:Nat) (w:World) (e:Ending) (w':World):Prop:=∃v1 v2 l1 l2,e=.returned (.tuple #[v1,v2])∧WV w' v1 l1∧WV w' v2 l2∧wv l1=x / y∧wv l2=x % y∧l1.length≤la∧l2.length≤la∧Below w.heap.size w w'
theorem iF {a b S:Nat} (hS:0<S):a*S / (b*S)=a / b∧a*S % (b*S)=a % b*S:=⟨Nat.mul_div_mul_right _ _ hS,Nat.mul_mod_mul_right ..⟩
theorem lG (ao:Option Addr) (g off cap:Nat) (a:List Nat) (bo:Option Addr) (g' off' cap':Nat) (b:List Nat) (w:World) (ha:WS w ao g off cap a) (hb:WS w bo g' off' cap' b) (nb:em b) (hla:a.length≤1000000) (hb2:2≤b.length) (hab:b.length≤a.length):
    Calls prog 214 #[.slice ao a.length cap,.slice bo b.length cap'] w (kc (wv a) (wv b) a.length w):=by
 obtain ⟨n,hn⟩:∃n,b.length=n+1:=⟨b.length-1,by omega⟩
 obtain ⟨m,hm⟩:∃m,a.length=m+(n+1):=⟨a.length-(n+1),by omega⟩
 have hmn:m+(n+1)≤1000000:=by omega
 have hn1:1≤n:=by omega
 have hal:=ha.le;have ham:=ha.most;have hbl:=hb.le;have hbm:=hb.most;have hbd:=hb.ad (by omega);subst hbd
 have hB1:b.getD n 0≠0:=by
  have:=nb.2 (b.getD n 0) (by rw[List.getLast?_eq_getElem?,hn,Nat.add_sub_cancel,aA,ay (by omega)];rfl);exact this
 have hB2:=hb.ws.getD n;rw[bj] at hB2;obtain ⟨L,hL,hL1,hL2⟩:=tA (b.getD n 0) hB1 (by omega);have hL32:L<32:=(Nat.pow_lt_pow_iff_right (by omega:1<2)).1 (by omega:2 ^ L<2 ^ 32);obtain ⟨s,hs⟩:∃s,s+(L+1)=32:=⟨31-L,by omega⟩
 obtain ⟨ns1,ns2⟩:=tB hb.ws hn hL1 hL2 hs;have cb:=hb.at_ n (by omega);have hlz:=Tryz.bits_LeadingZeros32 ((b.getD n 0:Nat):Int) w (by omega) (by omega);rw[Int.toNat_natCast,hL,show (32:Int)-((L+1:Nat):Int)=(s:Int) by omega] at hlz;have hsl1:=jr (some ⟨g',off',none⟩) g' off' cap' b s w hb (by omega) (by omega);have hsl2:=fun W (hW:Below w.heap.size w W)=>jr ao g off cap a s W (ha.far hW) (by omega) (by omega)
 have hs32:s<32:=by omega
 have hpw:=kW hs32;have NS1:=hid ns1;have NS2:=hid ns2;have HPW:=hid hpw;have HM:=hid hm;have HN:=hid hn;unfold uP at hsl1 hsl2;have hsb:IntKind.u64.wrap (s:Int)=(s:Int):=by rw[IntKind.wrap_u64];omega
 clear ha hb nb hB1 hL hL1 hL2 hL32 hs ns1 ns2 hpw;rw[hn,hm] at *;generalize b.getD n 0=B1 at *
 go_enter func214,ntmps214
 go_wp2_with fail
 refine hlz.mono ?_;rintro e w0 ⟨rfl,hw0⟩;rw[hw0];clear hw0
 go_wp2_with fail
 refine hsl1.mono ?_;rintro e w1 ⟨l1,rfl,hwb1,hws1,hlen1,hwv1,-,hb1⟩;obtain ⟨sd1,sd2,sd3⟩:=ra hlen1 hws1 (by rw[hwv1];exact NS1.out) (by rw[hwv1];exact NS2.out);have hD:=hwb1.wsTake hws1 (n+1) (by omega) (by omega);rw[hlen1] at hD;have hdv:wv (l1.take (n+1))=wv b*2 ^ s:=by rw[sd1,hwv1]
 have hsz1:w1.heap.size=w.heap.size+1∨w.heap.size<w1.heap.size:=.inr (ar hwb1);generalize l1.take (n+1)=d at *;have HD:=hid hD;have HDV:=hid hdv;have HDL:=hid sd3;have HDT:=hid sd2;have HB1:=hid hb1;have hgd:=ar hwb1;have hsl3:=hsl2 w1 hb1;clear hwb1 hws1 hlen1 hwv1 sd1 sd2 sd3 hD hdv hsz1 hb1 hsl1 hsl2 hlz
 go_wp2_with fail
 refine hsl3.mono ?_;rintro e w2 ⟨A,rfl,hwbu,hwsu,hlenu,hwvu,htopu,hb2⟩;have HWU:=hid hwbu;have HWA:=hid hwsu;have HAL:=hid hlenu;have HAV:=hid hwvu;have HAT:=hid htopu;have HB2:=hid (HB1.out.trans (hb2.mono (by omega)));have HD2:=hid (HD.out.far hb2);have hgu:=ar hwbu;clear hwbu hwsu hlenu hwvu htopu hb2 hsl3 HD HB1;have hmk:=eM (m+1) (by omega) ((m:Int)+1) (by omega)
 go_wp2
 have HMK:=hid (WB.new w2 (List.replicate (m+1) 0));have HB3:Hid (Below w.heap.size w (w2.alloc (.cells (bT (List.replicate (m+1) 0)).toArray 207))):=hid (HB2.out.alloc (by omega) _);have HWU3:Hid (WB (w2.alloc (.cells (bT (List.replicate (m+1) 0)).toArray 207)) w1.heap.size A):=hid ((Below.heap_alloc _ _ _ hgu).trans HWU.out);have HD3:=hid (HD2.out.far ((am _ _).alloc (aj _) (.cells (bT (List.replicate (m+1) 0)).toArray 207)));have HS0:Hid (LongR A d (List.replicate (m+1) 0) A (m+1)):=hid (LongR.start HWA.out (by rw[HDL.out,HAL.out];omega) (tC (n:=n) (by rw[HAL.out];omega) HWA.out (by have h1:=HAT.out;have h2:=HPW.out.2.2;rw[show m+1+n=m+(n+1) by omega];omega) (by rw[HDV.out];exact NS2.out)));generalize w2.alloc (.cells (bT (List.replicate (m+1) 0)).toArray 207)=w3 at *;clear hmk HWU HB2 HD2;generalize w1.heap.size=gu at *;generalize w2.heap.size=gq at *
 go_loopw [12] (fun jv wr=>∃(k:Nat) (Q U:List Nat),k≤m+1∧jv=.int .i64 ((k:Int)-1)∧LongR A d Q U k∧WB wr gq Q∧WB wr gu U∧WS wr (some ⟨w.heap.size,0,none⟩) w.heap.size 0 (n+1+1) d∧Below w.heap.size w wr) (fun jv _=>(intOf jv+1).toNat)
 case atStart=>exact ⟨m+1,_,A,aj _,by congr 1;omega,HS0.out,HMK.out,HWU3.out,HD3.out,HB3.out⟩
 case round=>
  obtain ⟨k,Q,U,hk,rfl,hlr,hwq,hwu,hwd,hbel⟩:=hrel;have HL:=hid hlr;have HQ:=hid hwq;have HU:=hid hwu;have HDD:=hid hwd;have HBl:=hid hbel;have hql:Q.length=m+1:=by have h1:=hlr.lenQ;rw[HDL.out,HAL.out] at h1;omega
  have hulen:U.length=m+(n+1)+1:=by rw[hlr.lenU,HAL.out]
  have hgql:=ar hwq;have hgul:=ar hwu;clear hlr hwq hwu hwd hbel HS0 HMK HWU3 HD3 HB3;rcases k with _ | j
  · obtain ⟨e1,e2⟩:=HL.out.done;rw[HAV.out,HDV.out,(iF HPW.out.2.1).1] at e1;rw[HAV.out,HDV.out,(iF HPW.out.2.1).2] at e2
    have hlt:wv U<BB ^ (n+1):=by
     have h1:=HL.out.less;have h2:=eW d HDD.out.ws;rw[HDL.out] at h2;rw[List.drop_zero] at h1
     omega
    have e3:=io U (n+1);rw[j9 U (n+1) hlt,Nat.mul_zero,Nat.add_zero,e2] at e3;have hul3:(U.take (n+1)).length=n+1:=by rw[List.length_take];omega
    have HWQ:Hid (WS wr (some ⟨gq,0,none⟩) gq 0 (m+1) Q):=hid (by
     have h:=HQ.out.wsTake HL.out.wsQ Q.length (aj _) (by omega)
     rw[List.take_length,hql] at h;exact h)
    have htq:∀W,Below wr.heap.size wr W→Calls prog 188 #[.slice (some ⟨gq,0,none⟩) (m+1) (m+1)] W fun e w'=>e=.returned (.slice (some ⟨gq,0,none⟩) (de Q).length (m+1))∧W=w':=fun W hW=>by
     have h:=iy (some ⟨gq,0,none⟩) gq 0 (m+1) Q W (HWQ.out.far hW);rw[hql] at h;exact h
    have hsr:∀W,Below wr.heap.size wr W→Calls prog 232 #[.slice (some ⟨gu,0,none⟩) (n+1) (m+(n+1)+1),.int .u64 s] W (uQ (U.take (n+1)) s W):=fun W hW=>by
     have h0:=HU.out.wsTake HL.out.wsU (n+1) (by omega) (by omega);rw[hulen] at h0;have h:=mJ (some ⟨gu,0,none⟩) gu 0 (m+(n+1)+1) (U.take (n+1)) s W (h0.far hW) (by omega) hs32;rw[hul3] at h;exact h
    have E1:=hid e1;have E3:=hid e3;have HBW:=hid HBl.out;have HTQ:=hid (gn Q);have HTL:=hid (e6 Q);have HTW:Hid (WS wr (some ⟨gq,0,none⟩) gq 0 (m+1) (de Q)):=hid (by rw[fA];exact HWQ.out.take _);clear e1 e2 hlt e3 HQ HU HDD HBl HWQ HL hmn;have HBD:Hid (Below wr.heap.size wr wr.drew):=hid (am _ _).drew
    go_wp2_with fail
    go_region_with ((first
     | (go_at_call 188;first
       | (with_reducible refine (htq _ HBD.out).mono ?_
          rintro e w4 ⟨rfl,rfl⟩)
       | (with_reducible refine htr2.mono ?_
          rintro e w4 ⟨rfl,rfl⟩))
     | (go_at_call 232
        refine (hsr _ HBD.out).mono ?_;rintro e w5 ⟨v5,l5,rfl,hv5,hl5,hr5,hb5⟩;have HV5:=hid (hr5 _ E3.out.symm);have HL5:=hid (hl5.trans hul3);have HB5:=hid (HBW.out.trans ((HBD.out.trans (hb5.mono (aj _))).mono HBW.out.size));have HQ5:=hid (HTW.out.far (HBD.out.trans (hb5.mono (aj _))));obtain ⟨a5,g5,o5,c5,rfl,hws5⟩:=hv5;have htr2:=iy a5 g5 o5 c5 l5 w5 hws5;have HWS5:=hid hws5
        clear hl5 hr5 hb5 hws5)))
    all_goals go_wp2_with fail
    all_goals go_ret2
    all_goals exact ⟨_,_,de Q,de l5,rfl,⟨_,_,_,_,rfl,HQ5.out⟩,⟨_,_,_,_,rfl,by rw[fA];exact HWS5.out.take _⟩,by rw[HTQ.out];exact E1.out,by rw[gn];exact HV5.out,by have:=HTL.out;omega,by have:=e6 l5;have:=HL5.out;omega,HB5.out⟩
  · obtain ⟨p1,p2,p3,p4,p5,p6,p7⟩:=HL.out.window HDD.out.ws (by omega);have HSTEP:=hid (fun u'=>HL.out.step HDD.out.ws (by omega) u');have hqw:=kX gu (m+(n+1)+1-j) (U.take j) ((U.drop j).take (d.length+1)) (U.drop (j+d.length+1)) (some ⟨w.heap.size,0,none⟩) w.heap.size 0 (n+1+1) d wr ⟨by rw[←p1];exact HU.out,⟨rfl,rfl,rfl,aj _,fun _ _ _=>rfl⟩⟩ HDD.out (by omega) p3 (by rw[HDL.out];omega) (by rw[HDL.out];omega) (by omega) p4 (by rw[HDL.out,Nat.add_sub_cancel];exact HDT.out) (by rw[p5];exact p6);rw[p2] at hqw;have HUL:=hid p3;clear p1 p2 p3 p4 p5 p6 p7;generalize (U.drop j).take (d.length+1)=uW at *;generalize U.drop (j+d.length+1)=C' at *;generalize U.take j=A' at *;rw[HDL.out] at hqw
    have hqw2:Calls prog 231 #[.slice (some ⟨gu,j,none⟩) (j+(n+1)+1-j) (m+(n+1)+1-j),.slice (some ⟨w.heap.size,0,none⟩) (n+1) (n+1+1)] wr (xW d uW gu A' C' wr):=by
     rw[show j+(n+1)+1-j=n+1+1 by omega];exact hqw
    clear hqw
    go_wp2_with fail
    refine hqw2.mono ?_;rintro e w5 ⟨u',rfl,hq5,hl5,hw5,hv5⟩;have HST:=hid (HSTEP.out u' (hl5.trans HUL.out) hw5 hv5);have HQ5:Hid (WB w5 gq Q):=hid ((hq5.gr.block gq hgql (fun e=>by injection e with e;omega)).trans HQ.out);have HU5:=hid hq5.wb;have HD5:=hid (hq5.far HDD.out (by omega));have HB5:=hid (HBl.out.grown hq5.gr HBl.out.size (fun k hk=>by injection hk with hk;omega));have hcq:=HQ5.out.cell j (by omega);have hfq:=HQ5.out.fz j;clear hq5 hl5 hw5 hv5 hqw2 HSTEP HQ HU HDD HBl HL;generalize Q.getD j 0=q0 at *
    go_wp2
    refine ⟨⟨j,_,_,by omega,by congr 1,HST.out,HQ5.out.set j _,(aG _ _ _ _ (by show gu≠gq;omega)).trans HU5.out,?_,HB5.out.setCell (by show w.heap.size≤gq;omega) _⟩,?_⟩
    · exact HD5.out.same fun _=>aG _ _ _ _ (by show w.heap.size≠gq;omega)
    · simp[intOf];try omega
theorem vU {x y:Nat} (h:x<y):x / y=0∧x % y=x:=⟨Nat.div_eq_of_lt h,Nat.mod_eq_of_lt h⟩
theorem pw (ao:Option Addr) (g off cap:Nat) (a:List Nat) (bo:Option Addr) (g' off' cap':Nat) (b:List Nat) (w:World) (ha:WS w ao g off cap a) (hb:WS w bo g' off' cap' b) (na:em a) (nb:em b) (hla:a.length≤1000000) (hb1:b.length=1) (hle:wv b≤wv a):
    Calls prog 178 #[.slice ao a.length cap,.slice bo b.length cap'] w (kc (wv a) (wv b) a.length w):=by
 have hal:=ha.le;have ham:=ha.most;have hbl:=hb.le;have hbm:=hb.most;have hbd:=hb.ad (by omega);subst hbd
 obtain ⟨B,rfl⟩:∃B,b=[B]:=by
  match b,hb1 with
  | [B],_=>exact ⟨B,rfl⟩
 have hB0:B≠0:=nb.2 B rfl;have hB9:B<4294967296:=by have:=hb.ws B (by simp);rwa [bj] at this
 rw[oU] at *;have hcmp:=eY ao g off cap a (some ⟨g',off',none⟩) g' off' cap' [B] w ha hb na nb;rw[oU] at hcmp
 have hcv:¬eS (wv a) B<0:=by
  rcases Nat.lt_or_ge B (wv a) with h | h
  · rw[gQ h];omega
  · rw[ja (by omega)];omega
 generalize eS (wv a) B=cv at *;have hmk:=eM a.length (by omega) (a.length:Int) rfl;have HNA:=hid na;have HLE:=hid hle;have HA:=hid ha;have HB:=hid hb;clear ha hb na nb hle;rw[aS] at *
 go_enter func178,ntmps178
 go_wp2_with fail
 refine hcmp.mono ?_;rintro e w1 ⟨rfl,n1,rfl⟩;have HST:=hid (WB.new (w.drewN n1) (List.replicate a.length 0));have HBE:Hid (Below w.heap.size w ((w.drewN n1).alloc (.cells (bT (List.replicate a.length 0)).toArray 207))):=hid ((aW (am _ _) _).alloc (aj _) _);clear hcmp;have HMOD:Hid (∀r,r<B→r<18446744073709551616):=hid (fun r h=>by omega);have hBz:((B:Int)==0)=false:=by simp;omega
 have HD0:Hid (DivR a (List.replicate a.length 0) B a.length 0):=hid (DivR.start a B (by omega))
 go_wp2
 go_loopw [7,8] (fun rv iv wr=>∃(k rr:Nat) (q:List Nat),k≤a.length∧iv=.int .i64 ((k:Int)-1)∧rv=.int .u64 rr∧DivR a q B k rr∧WB wr w.heap.size q∧Below w.heap.size w wr) (fun _ iv _=>(intOf iv+1).toNat)
 case atStart=>exact ⟨a.length,0,_,aj _,rfl,rfl,HD0.out,HST.out,HBE.out⟩
 case round=>
  obtain ⟨k,rr,q,hk,rfl,rfl,hdv,hwb,hbel⟩:=hrel;have HD:=hid hdv;have HW:=hid hwb;have HBl:=hid hbel;have hql:=hdv.len;have hrr:rr<B:=hdv.r1;have hrr0:(0:Int)≤(rr:Int):=by omega
  have hszl:=ar hwb;clear hdv hwb hbel HST HBE HD0;rcases Nat.eq_zero_or_pos k with h0 | h0
  · subst h0;obtain ⟨d1,d2⟩:=HD.out.done;have D1:=hid d1;have D2:=hid d2
    have HWS:Hid (WS wr (some ⟨w.heap.size,0,none⟩) w.heap.size 0 a.length q):=hid (by
     have h:=HW.out.wsTake HD.out.ws q.length (aj _) (by omega)
     rw[List.take_length,hql] at h;exact h)
    have htr:=iy (some ⟨w.heap.size,0,none⟩) w.heap.size 0 a.length q wr HWS.out;rw[hql] at htr;have hwo:=fun W=>lp rr W (by omega)
    clear d1 d2
    go_wp2_with fail
    refine htr.mono ?_;rintro e w3 ⟨rfl,rfl⟩
    go_wp2_with fail
    refine (hwo _).mono ?_;rintro e w4 ⟨v4,l4,rfl,hv4,hn4,hw4,hl4,hb4⟩;have HWT:Hid (WS w4 (some ⟨w.heap.size,0,none⟩) w.heap.size 0 a.length (de q)):=hid (by rw[fA];exact (HWS.out.far hb4).take _)
    have HLL:Hid (l4.length≤a.length):=hid (by
     rcases Nat.lt_or_ge a.length l4.length with h | h
     · have:=eK a l4 HNA.out hn4 h;have:=HLE.out
       omega
     · exact h)
    have HB4:=hid (HBl.out.trans (hb4.mono HBl.out.size))
    go_wp2
    go_ret2
    exact ⟨_,_,de q,l4,rfl,⟨_,_,_,_,rfl,HWT.out⟩,hv4,by rw[gn];exact D1.out,by rw[hw4];exact D2.out,by have:=e6 q;omega,HLL.out,HB4.out⟩
  · have had:=HA.out.ad (by omega);subst had;have hcl:=HA.out.keep HBl.out (i:=k-1) (by omega);have hx:=cW (i:=k-1) HA.out.ws;have hx0:(0:Int)≤((a.getD (k-1) 0:Nat):Int):=by omega
    have hcb:=HB.out.keep HBl.out (i:=0) (by simp);rw[Nat.add_zero] at hcb;have hcb':wr.cell? ⟨g',off',none⟩=some (.int .u32 (B:Int)):=hcb
    have HSP:Hid (∀t,t=a.getD (k-1) 0+4294967296*rr→DivR a (q.set (k-1) (t / B)) B (k-1) (t % B)∧t / B<BB):=hid (fun t ht=>by
     have h:=HD.out;rw[show k=k-1+1 by omega] at h
     exact h.step HA.out.ws (by omega) t (by rw[ht,bj,Nat.mul_comm rr];omega))
    have hcq:=HW.out.cell (k-1) (by omega);have hfq:=HW.out.fz (k-1);have hor:=jY rr (a.getD (k-1) 0) (by omega) (by omega);have p0:(0:Int)≤(k:Int)-1:=by omega
    have p1:((k:Int)-1).toNat=k-1:=by omega
    have p2:(k:Int)-1<(a.length:Int):=by omega
    clear hcb;generalize a.getD (k-1) 0=x at *;generalize q.getD (k-1) 0=z at *;have hP1:x+4294967296*rr<18446744073709551616:=by omega
    obtain ⟨s1,s2⟩:=HSP.out _ rfl;have S1:=hid s1;rw[bj] at s2;clear s1 HSP;generalize x+4294967296*rr=P at *;have hP0:(0:Int)≤(P:Int):=by omega
    have hB1:(0:Int)≤(B:Int):=by omega
    have hB9i:(B:Int)≤4294967295:=by omega
    have hwB:IntKind.u64.wrap (B:Int)=(B:Int):=by rw[IntKind.wrap_u64];omega
    have e1:(P:Int) / (B:Int)=((P / B:Nat):Int):=(Int.natCast_ediv P B).symm;have e2:(P:Int) % (B:Int)=((P % B:Nat):Int):=(Int.natCast_emod P B).symm;have e3:(P:Int).tmod (B:Int)=((P % B:Nat):Int):=rfl;obtain ⟨Q,hQ⟩:∃Q,P / B=Q:=⟨_,rfl⟩
    obtain ⟨R,hR⟩:∃R,P % B=R:=⟨_,rfl⟩
    have hR9:R<B:=by rw[←hR];exact Nat.mod_lt _ (by omega)
    rw[hQ] at s2 e1 S1;rw[hR] at e2 e3 S1;have hwq:IntKind.u64.wrap (Q:Int)=(Q:Int):=by rw[IntKind.wrap_u64];omega
    have hwq2:IntKind.u32.wrap (Q:Int)=(Q:Int):=by rw[IntKind.wrap_u32];omega
    have hQ0:(0:Int)≤(Q:Int):=by omega
    have hQ9:(Q:Int)≤4294967295:=by omega
    clear hQ hR
    go_wp2
    have hne1:¬g'=w.heap.size:=by have:=HB.out.lt (by omega);omega
    have hne2:¬w.heap.size=g':=by omega
    go_region_held3 (fun w'=>w'.cell? ⟨g',off',none⟩=some (.int .u32 (B:Int))) (first | exact hcb' | go_keep) (fail)
    all_goals go_wp2
    all_goals exact ⟨⟨k-1,R,q.set (k-1) Q,by omega,by congr 1;omega,rfl,S1.out,HW.out.set (k-1) Q,(HBl.out.setCell (aj _) _).drew⟩,by simp[intOf];omega⟩
theorem nA (ao:Option Addr) (g off cap:Nat) (a:List Nat) (bo:Option Addr) (g' off' cap':Nat) (b:List Nat) (w:World) (ha:WS w ao g off cap a) (hb:WS w bo g' off' cap' b) (na:em a) (nb:em b) (hla:a.length≤1000000) (hlt:wv a<wv b):
    Calls prog 178 #[.slice ao a.length cap,.slice bo b.length cap'] w (kc (wv a) (wv b) a.length w):=by
 have hal:=ha.le;have ham:=ha.most;have hbl:=hb.le;have hbm:=hb.most;have hcmp:=eY ao g off cap a bo g' off' cap' b w ha hb na nb;rw[i8 hlt] at hcmp;obtain ⟨i0,hi,hz0,hz1,hz2⟩:=info_parts lP;have HW:=hid ha.ws;have HD:=hid (vU hlt)
 by_cases hcap:0<cap
 · have had:=ha.ad hcap;subst had;have HNEWS:Hid (∀n,∀j u,(bT a)[j]? =some u→(w.drewN n).cell? ((⟨g,off,none⟩:Addr).add j)=some u):=hid (fun n=>(ha.drewN n).news);clear ha hb na nb hlt
   go_enter func178,ntmps178
   go_wp2_with fail
   refine hcmp.mono ?_;rintro e w1 ⟨rfl,n1,rfl⟩
   go_wp2_with (at_builtin;refine wpList_append_own _ rfl _ _ 71 rfl w.heap.size 207 i0 (.int .u32 0) 1 4 underlying71 hi hz0 hz1 hz2 rfl (by decide) _ 0 [] rfl (World.ownsRow_nil _ _ _ _) ⟨g,off,none⟩ a.length cap (bT a) rfl (by rw[iz,Nat.mul_one]) (HNEWS.out n1) (qY a) (by unfold maxLen;omega) (by omega) (by simp) ?_)
   intro v4 w4 hown hgrow _;have hown2:w4.ownsRow w.heap.size 207 1 v4 a.length (bT a):=by simpa using hown
   have HV:=hid (mz hown2 HW.out);have HB4:=hid ((aW (am w.heap.size w) n1).grown hgrow (by simp) (fun k hk=>by cases hk));clear hown hown2 hgrow
   go_wp2
   go_ret2
   exact ⟨_,_,[],a,rfl,WV.nil _,HV.out,HD.out.1.symm,HD.out.2.symm,by simp,aj _,HB4.out⟩
 · have hal0:a=[]:=List.length_eq_zero_iff.1 (by omega);subst hal0;obtain rfl:cap=0:=by omega
   clear ha hb na nb hlt HW;rw[aN] at *;cases ao with
   | none=>
     go_enter func178,ntmps178
     go_wp2_with fail
     refine hcmp.mono ?_;rintro e w1 ⟨rfl,n1,rfl⟩
     go_wp2_with (at_builtin;refine wpList_append_own_none rfl _ _ 71 rfl w.heap.size 207 i0 1 underlying71 hi _ 0 [] rfl (World.ownsRow_nil _ _ _ _) rfl ?_)
     go_wp2
     go_ret2
     exact ⟨_,_,[],[],rfl,WV.nil _,WV.nil _,HD.out.1.symm,HD.out.2.symm,by simp,aj _,aW (am w.heap.size w) n1⟩
   | some ad=>
     go_enter func178,ntmps178
     go_wp2_with fail
     refine hcmp.mono ?_;rintro e w1 ⟨rfl,n1,rfl⟩
     go_wp2_with (at_builtin;refine wpList_append_own _ rfl _ _ 71 rfl w.heap.size 207 i0 (.int .u32 0) 1 4 underlying71 hi hz0 hz1 hz2 rfl (by decide) _ 0 [] rfl (World.ownsRow_nil _ _ _ _) ad 0 0 [] rfl rfl (fun j u h=>by simp at h) (fun u h=>by simp at h) (by unfold maxLen;omega) (by omega) (by simp) ?_)
     intro v4 w4 hown hgrow _;have hown2:w4.ownsRow w.heap.size 207 1 v4 ([]:List Nat).length (bT []):=hown;have HV:=hid (mz hown2 Ws.nil);have HB4:=hid ((aW (am w.heap.size w) n1).grown hgrow (by simp) (fun k hk=>by cases hk));clear hown hown2 hgrow
     go_wp2
     go_ret2
     exact ⟨_,_,[],[],rfl,WV.nil _,HV.out,HD.out.1.symm,HD.out.2.symm,by simp,aj _,HB4.out⟩
theorem nB (ao:Option Addr) (g off cap:Nat) (a:List Nat) (bo:Option Addr) (g' off' cap':Nat) (b:List Nat) (w:World) (ha:WS w ao g off cap a) (hb:WS w bo g' off' cap' b) (na:em a) (nb:em b) (hla:a.length≤1000000) (hb2:2≤b.length) (hle:wv b≤wv a):
    Calls prog 178 #[.slice ao a.length cap,.slice bo b.length cap'] w (kc (wv a) (wv b) a.length w):=by
 have hal:=ha.le;have ham:=ha.most;have hbl:=hb.le;have hbm:=hb.most;have hcmp:=eY ao g off cap a bo g' off' cap' b w ha hb na nb
 have hcv:¬eS (wv a) (wv b)<0:=by
  rcases Nat.lt_or_ge (wv b) (wv a) with h | h
  · rw[gQ h];omega
  · rw[ja (by omega)];omega
 have hab:b.length≤a.length:=by
  rcases Nat.lt_or_ge a.length b.length with h | h
  · have:=eK a b na nb h;omega
  · exact h
 have hld:=fun n=>lG ao g off cap a bo g' off' cap' b (w.drewN n) (ha.drewN n) (hb.drewN n) nb hla hb2 hab
 have hb1:((b.length:Int)==1)=false:=by simp;omega
 generalize eS (wv a) (wv b)=cv at *;clear ha hb na nb hle
 go_enter func178,ntmps178
 go_wp2_with fail
 refine hcmp.mono ?_;rintro e w1 ⟨rfl,n1,rfl⟩
 go_wp2_with fail
 refine (hld n1).mono ?_;rintro e w2 ⟨v1,v2,l1,l2,rfl,h1,h2,h3,h4,h5,h6,hb2⟩;have HB2:=hid ((aW (am w.heap.size w) n1).trans hb2);clear hb2 hld hcmp
 go_wp2
 go_ret2
 exact ⟨_,_,l1,l2,rfl,h1,h2,h3,h4,h5,h6,HB2.out⟩
theorem pA (x y:Value) (a b:List Nat) (w:World) (ha:WV w x a) (hb:WV w y b) (na:em a) (nb:em b) (hla:a.length≤1000000) (hb0:b≠[]):Calls prog 178 #[x,y] w (kc (wv a) (wv b) a.length w):=by
 obtain ⟨ao,g,off,cap,rfl,h1⟩:=ha;obtain ⟨bo,g',off',cap',rfl,h2⟩:=hb;have hlen:0<b.length:=List.length_pos_iff.2 hb0
 by_cases hlt:wv a<wv b
 · exact nA ao g off cap a bo g' off' cap' b w h1 h2 na nb hla hlt
 · by_cases hb1:b.length=1
   · exact pw ao g off cap a bo g' off' cap' b w h1 h2 na nb hla hb1 (by omega)
   · exact nB ao g off cap a bo g' off' cap' b w h1 h2 na nb hla (by omega) (by omega)
end Go.Proofs.YtpkfnnkbfphfbaaGreatDoor

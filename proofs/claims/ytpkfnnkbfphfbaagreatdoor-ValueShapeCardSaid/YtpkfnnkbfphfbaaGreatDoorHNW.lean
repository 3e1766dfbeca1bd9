import Derived.Test.YtpkfnnkbfphfbaaGreatDoorHNV
set_option maxRecDepth 100000
set_option maxHeartbeats 40000000
open Go.Lib (hid)
namespace Go.Proofs.YtpkfnnkbfphfbaaGreatDoor.Arx
abbrev L:=List (Int×Int)
def Vld (d:Int):L→Prop
 | []=>True
 | [p]=>p.2≠d
 | p::q::l=>p.2≠d∧p.1<q.1∧Vld d (q::l)
def atA (d:Int):L→Int→Int
 | [],_=>d
 | p::l,k=>if p.1=k then p.2 else atA d l k
def stA (d:Int):L→Int→Int→L
 | [],k,v=>if v=d then [] else [(k,v)]
 | p::l,k,v=>if k<p.1 then (if v=d then p::l else (k,v)::p::l) else if p.1=k then (if v=d then l else (k,v)::l) else p::stA d l k v
def Gt (k:Int) (l:L):Prop:=∀p∈l,k<p.1
theorem Vld.tail {d:Int} {p:Int×Int} {l:L} (h:Vld d (p::l)):p.2≠d∧Gt p.1 l∧Vld d l:=by
 induction l generalizing p with
 | nil=>exact ⟨h,(fun q hq=>by cases hq),trivial⟩
 | cons q l ih=>
   obtain ⟨h1,h2,h3⟩:=h;obtain ⟨g1,g2,g3⟩:=ih h3;refine ⟨h1,fun r hr=>?_,h3⟩;rcases List.mem_cons.1 hr with rfl | hr
   · exact h2
   · exact Int.lt_trans h2 (g2 r hr)
theorem Vld.cons {d:Int} {p:Int×Int} {l:L} (h1:p.2≠d) (h2:Gt p.1 l) (h3:Vld d l):Vld d (p::l):=by
 cases l with
 | nil=>exact h1
 | cons q l=>exact ⟨h1,h2 q (by simp),h3⟩
theorem Ak {d k:Int} {l:L} (h:Gt k l):atA d l k=d:=by
 induction l with
 | nil=>rfl
 | cons p l ih=>
   have:=h p (by simp);unfold atA;rw[aB (by omega)];exact ih (fun q hq=>h q (by simp[hq]))
theorem Gt.mono {k j:Int} {l:L} (h:Gt k l) (hj:j≤k):Gt j l:=fun p hp=>Int.lt_of_le_of_lt hj (h p hp)
theorem Bo {d:Int} {l:L} {k v j:Int} (h:Gt j l) (hk:j<k):Gt j (stA d l k v):=by
 induction l with
 | nil=>
   unfold stA;split
   · exact h
   · intro p hp;rw[List.mem_singleton.1 hp];exact hk
 | cons p l ih=>
   have hp:=h p (by simp);have hl:Gt j l:=fun q hq=>h q (by simp[hq])
   unfold stA
   split
   · split
     · exact h
     · intro q hq;rcases List.mem_cons.1 hq with rfl | hq
       · exact hk
       · exact h q hq
   · split
     · split
       · exact hl
       · intro q hq;rcases List.mem_cons.1 hq with rfl | hq
         · exact hk
         · exact hl q hq
     · intro q hq;rcases List.mem_cons.1 hq with rfl | hq
       · exact hp
       · exact ih hl q hq
theorem Vld.st {d:Int} {l:L} (h:Vld d l) (k v:Int):Vld d (stA d l k v):=by
 induction l with
 | nil=>
   unfold stA;split
   · trivial
   · rename_i hv;exact hv
 | cons p l ih=>
   obtain ⟨h1,h2,h3⟩:=h.tail;unfold stA
   split
   · rename_i hk
     split
     · exact h
     · rename_i hv
       exact Vld.cons hv (fun q hq=>by
        rcases List.mem_cons.1 hq with rfl | hq
        · exact hk
        · exact Int.lt_trans hk (h2 q hq)) h
   · split
     · rename_i hk
       split
       · exact h3
       · rename_i hv
         exact Vld.cons hv (by rw[←hk];exact h2) h3
     · exact Vld.cons h1 (Bo h2 (by omega)) (ih h3)
theorem ext {d:Int}:∀{a b:L},Vld d a→Vld d b→(∀p∈a,atA d a p.1=atA d b p.1)→(∀p∈b,atA d a p.1=atA d b p.1)→a=b
 | [],[],_,_,_,_=>rfl
 | [],q::b,_,hb,_,h2=>by
   have:=h2 q (by simp);simp only[atA,if_true] at this;exact absurd this.symm hb.tail.1
 | p::a,[],ha,_,h1,_=>by
   have:=h1 p (by simp);simp only[atA,if_true] at this;exact absurd this ha.tail.1
 | p::a,q::b,ha,hb,h1,h2=>by
   obtain ⟨a1,a2,a3⟩:=ha.tail;obtain ⟨b1,b2,b3⟩:=hb.tail;have e1:=h1 p (by simp);have e2:=h2 q (by simp);simp only[atA,if_true] at e1 e2
   by_cases hpq:p.1=q.1
   · rw[aF hpq.symm] at e1;have hp:p=q:=Prod.ext hpq e1;subst hp
     have hs:∀k,p.1<k→(atA d (p::a) k=atA d a k∧atA d (p::b) k=atA d b k):=fun k hk=>by
      simp only[atA];rw[aB (by omega),aB (by omega)];exact ⟨rfl,rfl⟩
     rw[ext a3 b3 (fun r hr=>by
      have h:=h1 r (by simp[hr]);obtain ⟨x1,x2⟩:=hs r.1 (a2 r hr)
      rwa [x1,x2] at h) (fun r hr=>by
      have h:=h2 r (by simp[hr]);obtain ⟨x1,x2⟩:=hs r.1 (b2 r hr)
      rwa [x1,x2] at h)]
   · rw[aB (fun e=>hpq e.symm)] at e1;rw[aB hpq] at e2
     by_cases hlt:p.1<q.1
     · rw[Ak (b2.mono (Int.le_of_lt hlt))] at e1;exact absurd e1 a1
     · rw[Ak (a2.mono (by omega))] at e2;exact absurd e2.symm b1
def ixA:L→Int→Nat
 | [],_=>0
 | p::l,k=>if p.1<k then ixA l k+1 else 0
def isA (l:L) (k:Int):Bool:=match l[ixA l k]? with | some p=>p.1==k | none=>false
theorem ixA_le (l:L) (k:Int):ixA l k≤l.length:=by
 induction l with
 | nil=>exact aj _
 | cons p l ih=>unfold ixA;split <;> simp <;> omega
theorem yc {p:Int×Int} {l:L} {k:Int}:isA (p::l) k=if p.1<k then isA l k else p.1==k:=by
 unfold isA;rw[ixA]
 by_cases h:p.1<k
 · rw[aF h,aF h,List.getElem?_cons_succ]
 · rw[aB h,aB h];rfl
theorem st_place (d:Int) (l:L) (k v:Int):stA d l k v=if isA l k then (if v=d then l.eraseIdx (ixA l k) else l.set (ixA l k) (k,v)) else (if v=d then l else l.take (ixA l k)++(k,v)::l.drop (ixA l k)):=by
 induction l with
 | nil=>simp[stA,isA,ixA]
 | cons p l ih=>
   rw[yc,ixA,stA]
   by_cases h1:p.1<k
   · rw[aB (by omega),aB (by omega),aF h1,aF h1,ih]
     split
     · split <;> simp
     · split <;> simp
   · rw[aB h1,aB h1]
     by_cases h2:p.1=k
     · have e:(p.1==k)=true:=by simpa using h2
       rw[aB (by omega),aF h2];simp only[e,if_true]
       split <;> simp
     · have e:(p.1==k)=false:=by simpa using h2
       rw[aF (by omega)];simp only[e]
       split <;> simp
def rsA (d k v:Int):Bool→L→L
 | put,[]=>if put then [] else if v=d then [] else [(k,v)]
 | put,p::l=>(if put=false∧k≤p.1 then (if v=d then [] else [(k,v)]) else [])++((if p.1=k then [] else [p])++rsA d k v (put || decide (k≤p.1)) l)
theorem tH {d k v:Int}:∀{l:L},Gt k l→rsA d k v true l=l
 | [],_=>by simp[rsA]
 | p::l,h=>by
   have h1:=h p (by simp);have h2:Gt k l:=fun q hq=>h q (by simp[hq])
   rw[rsA,aB (by simp),aB (by omega),Bool.true_or,tH h2];rfl
theorem rs_st {d k v:Int}:∀{l:L},Vld d l→rsA d k v false l=stA d l k v
 | [],_=>by simp[rsA,stA]
 | p::l,h=>by
   obtain ⟨h1,h2,h3⟩:=h.tail;rw[rsA,stA,Bool.false_or]
   by_cases hk:k<p.1
   · have hne:¬p.1=k:=by omega
     have hle:k≤p.1:=by omega
     simp only[hne,hle,hk,if_true,if_false,and_self,decide_true];rw[tH (h2.mono hle)]
     split <;> rfl
   · rw[aB hk]
     by_cases he:p.1=k
     · simp only[he,if_true,and_self,decide_true,Int.le_refl];rw[tH (by rw[←he];exact h2)]
       split <;> rfl
     · have hle:¬k≤p.1:=by omega
       simp only[he,hle,if_false,and_false,decide_false];rw[rs_st h3];rfl
theorem ix_lt {d k:Int}:∀{l:L},Vld d l→∀{h:Nat} (hh:h<l.length),l[h].1<k ↔ h<ixA l k
 | [],_,h,hh=>by simp at hh
 | p::l,hv,h,hh=>by
   obtain ⟨-,h2,h3⟩:=hv.tail;rw[ixA];cases h with
   | zero=>
     simp only[List.getElem_cons_zero]
     split <;> omega
   | succ h=>
     have hh':h<l.length:=by simpa using hh
     have ih:=ix_lt h3 (k:=k) hh';have hg:=h2 _ (List.getElem_mem hh');simp only[List.getElem_cons_succ]
     split
     · rw[ih];omega
     · constructor
       · intro hc;omega
       · intro hc;omega
theorem isA_at {l:L} {k:Int} (h:ixA l k<l.length):isA l k=(l[ixA l k].1==k):=by
 unfold isA;rw[ay h]
theorem isA_end {l:L} {k:Int} (h:¬ixA l k<l.length):isA l k=false:=by
 unfold isA;rw[List.getElem?_eq_none (by omega)]
theorem isA_lt {l:L} {k:Int} (h:isA l k=true):ixA l k<l.length:=by
 by_cases hl:ixA l k<l.length
 · exact hl
 · rw[isA_end hl] at h;cases h
theorem Vld.ne {d:Int}:∀{l:L},Vld d l→∀p∈l,p.2≠d
 | [],_,p,hp=>by cases hp
 | q::l,h,p,hp=>by
   obtain ⟨h1,h2,h3⟩:=h.tail;rcases List.mem_cons.1 hp with rfl | hp
   · exact h1
   · exact Vld.ne h3 p hp
theorem Vld.lt {d:Int}:∀{l:L},Vld d l→∀{j:Nat} (h:j+1<l.length),(l[j]'(by omega)).1<(l[j+1]'h).1
 | [],_,j,hj=>by simp at hj
 | [p],_,j,hj=>by simp at hj
 | p::q::l,h,0,hj=>h.2.1
 | p::q::l,h,j+1,hj=>by
   have:=Vld.lt (l:=q::l) h.2.2 (j:=j) (by simpa using hj)
   simpa using this
theorem st_all {P:Int→Prop} {d k v:Int} {l:L} (h:∀p∈l,P p.1∧P p.2) (hk:P k) (hv:P v):∀p∈stA d l k v,P p.1∧P p.2:=by
 induction l with
 | nil=>
   unfold stA;split
   · exact h
   · intro p hp;rw[List.mem_singleton.1 hp];exact ⟨hk,hv⟩
 | cons q l ih=>
   have hq:=h q (by simp);have hl:∀p∈l,P p.1∧P p.2:=fun p hp=>h p (by simp[hp])
   unfold stA
   split
   · split
     · exact h
     · intro p hp;rcases List.mem_cons.1 hp with rfl | hp
       · exact ⟨hk,hv⟩
       · exact h p hp
   · split
     · split
       · exact hl
       · intro p hp;rcases List.mem_cons.1 hp with rfl | hp
         · exact ⟨hk,hv⟩
         · exact hl p hp
     · intro p hp;rcases List.mem_cons.1 hp with rfl | hp
       · exact hq
       · exact ih hl p hp
theorem st_len (d:Int) (l:L) (k v:Int):(stA d l k v).length≤l.length+1:=by
 induction l with
 | nil=>unfold stA;split <;> simp
 | cons p l ih=>
   unfold stA
   split
   · split <;> simp
   · split
     · split <;> simp <;> omega
     · simp;omega
end Go.Proofs.YtpkfnnkbfphfbaaGreatDoor.Arx
namespace Go.Proofs.YtpkfnnkbfphfbaaGreatDoor
open Go.RowKit Nmx
end Go.Proofs.YtpkfnnkbfphfbaaGreatDoor
namespace Nmx
def sgQ (x:Rat):Int:=jX x 0
theorem yd (x y:Rat):sgQ (x-y)=jX x y:=by unfold sgQ jX;grind
theorem zB (x:Rat):sgQ x=if x.num<0 then -1 else if 0<x.num then 1 else 0:=by
 unfold sgQ;rw[mt]
 simp
theorem DS.sub {d e:Nat} {p q:Rat} (hp:DS d p) (hq:DS e q):DS (d+e+1) (p-q):=by
 rw[Rat.sub_eq_add_neg];exact hp.add hq.neg
end Nmx
namespace Go.Proofs.YtpkfnnkbfphfbaaGreatDoor
open Go.RowKit Nmx Go.Proofs.Tryz
theorem ye (p q:Rat):dd (p-q).num=jX p q:=by
 rw[←yd,zB];rfl
theorem zC {d e:Nat} {p q:Rat} (hp:DS d p) (hq:DS e q) (hd:d≤3000) (he:e≤3000) (W:World) (h:Env W):Calls prog 58 #[.string (TX p),.string (TX q)] W fun e w'=>e=.returned (.int .i64 (jX p q))∧Below W.heap.size W w':=by
 have hpa:=Bn hp hq hd he W h;have HRP:Hid (RS 334 p):=hid (rf hp (by omega));have HRQ:Hid (RS 334 q):=hid (rf hq (by omega));clear h hp hq;generalize TX p=tp at *;generalize TX q=tq at *
 go_enter func58,ntmps58
 go_wp2_with fail
 refine hpa.mono ?_;rintro e w1 ⟨v1,v2,rfl,hv1,hv2,hb1⟩;have HV1:=hid hv1;have HV2:=hid hv2;have HB1:=hid hb1;have hf:=fun (W:World) (hW:Below w1.heap.size w1 W)=>tF v1 v2 p q W (HV1.out.far hW) (HV2.out.far hW) HRP.out HRQ.out (by omega) (by omega)
 obtain ⟨s1,b1,a1,n1,c1,s2,b2,a2,n2,c2,rfl,-,-⟩:=bG hv1;obtain ⟨s3,b3,a3,n3,c3,s4,b4,a4,n4,c4,rfl,-,-⟩:=bG hv2;have HB0:=hid (bE w1 (.cells #[.int .i64 s1,.bool b1,.slice a1 n1 c1,.int .i64 s2,.bool b2,.slice a2 n2 c2] 75) (.cells #[.int .i64 s3,.bool b3,.slice a3 n3 c3,.int .i64 s4,.bool b4,.slice a4 n4 c4] 75));have hf0:=hf _ HB0.out;clear hv1 hv2 hb1 hpa hf
 go_wp2_with fail
 refine hf0.mono ?_;rintro e w2 ⟨rfl,hb3⟩;have HB2:=hid (HB1.out.trans ((HB0.out.trans (hb3.mono HB0.out.size)).mono HB1.out.size));clear hb3 hf0
 go_wp2
 go_ret
 exact ⟨rfl,HB2.out⟩
theorem zD {d e:Nat} {p q:Rat} (dp:DS d p) (dq:DS e q) (hd:d≤2000) (he:e≤2000) (W:World):Calls prog 44 #[.string (TX p),.string (TX q)] W fun e w'=>e=.returned (.int .i64 (jX p q))∧Below W.heap.size W w':=by
    have HI:Hid (jX p q=dd (p-q).num):=hid (ye p q).symm;have h1:=fun W=>oE dp (by omega) W
    have h2:=fun W=>oE dq (by omega) W
    have h3:=fun W=>zN dp dq (by omega) (by omega) W
    have h4:=fun W=>mS (dp.sub dq) (by omega) W
    clear dp dq;generalize TX p=tp at *;generalize TX q=tq at *;generalize dd (p-q).num=z at *;generalize p-q=r at *
    go_enter func44,ntmps44
    go_wp2_with fail
    refine (h1 _).mono ?_;rintro e w1 ⟨rfl,hb1⟩;have HB1:=hid hb1;clear hb1
    go_wp2_with fail
    refine (h2 _).mono ?_;rintro e w2 ⟨rfl,hb2⟩;have HB2:=hid (HB1.out.trans (hb2.mono HB1.out.size));clear hb2
    go_wp2_with fail
    refine (h3 _).mono ?_;rintro e w3 ⟨rfl,hb3⟩;have HB3:=hid (HB2.out.trans (hb3.mono HB2.out.size));clear hb3
    go_wp2_with fail
    refine (h4 _).mono ?_;rintro e w4 ⟨rfl,hb4⟩;have HB4:=hid (HB3.out.trans (hb4.mono HB3.out.size));clear hb4
    go_wp2
    go_ret
    exact ⟨ret_int (by rw[HI.out]),HB4.out⟩
theorem Bp {d:Nat} {q:Rat} (hq:DS d q) (hd:d≤3000) (W:World) (h:Env W):Calls prog 94 #[.string (TX q)] W (my q W):=by
 have hb0:Below W.heap.size W (W.alloc (.cells #[.int .i64 0,.bool false,.slice none 0 0,.int .i64 0,.bool false,.slice none 0 0] 75)):=(am _ _).alloc (aj _) _;have hpa:=pD hq hd _ (h.far hb0);have HB0:=hid hb0;have HR0:=hid (aq W (.cells #[.int .i64 0,.bool false,.slice none 0 0,.int .i64 0,.bool false,.slice none 0 0] 75));clear h hq hb0;generalize TX q=tq at *
 go_enter func94,ntmps94
 go_wp2_with fail
 refine hpa.mono ?_;rintro e w1 ⟨v1,rfl,hv1,hb1⟩;have hsz:=hb1.size;obtain ⟨s1,b1,a1,n1,c1,s2,b2,a2,n2,c2,rfl,i1,i2⟩:=bG hv1;have hal:Below w1.heap.size w1 (w1.alloc (.cells #[.int .i64 s1,.bool b1,.slice a1 n1 c1,.int .i64 s2,.bool b2,.slice a2 n2 c2] 75)):=(am _ _).alloc (aj _) _;have hR:=(hal.block _ (ar ((hb1.block _ (ar HR0.out)).trans HR0.out))).trans ((hb1.block _ (ar HR0.out)).trans HR0.out);have HR:=hid hR;have HI1:=hid (i1.far hal);have HI2:=hid (i2.far hal);have HB:=hid ((HB0.out.trans (hb1.mono HB0.out.size)).alloc (by have:=HB0.out.size;omega) (.cells #[.int .i64 s1,.bool b1,.slice a1 n1 c1,.int .i64 s2,.bool b2,.slice a2 n2 c2] 75));have r0:=aa hR 0;have r1:=aa hR 1;have r2:=aa hR 2;have r3:=aa hR 3;have r4:=aa hR 4;have r5:=aa hR 5;have fr:=fun i=>aK hR i
 have hlt:W.heap.size<w1.heap.size:=by simp at hsz;omega
 have HN:=hid (aq w1 (.cells #[.int .i64 s1,.bool b1,.slice a1 n1 c1,.int .i64 s2,.bool b2,.slice a2 n2 c2] 75));clear hv1 hb1 hpa i1 i2 hal hR hsz r0 r1 r2 r3 r4 r5 fr
 go_upto_region 2 with fail
 generalize w1.alloc (.cells #[.int .i64 s1,.bool b1,.slice a1 n1 c1,.int .i64 s2,.bool b2,.slice a2 n2 c2] 75)=w2 at *;generalize w1.heap.size=R at *;have r0:=aa HR.out 0;have r1:=aa HR.out 1;have r2:=aa HR.out 2;have r3:=aa HR.out 3;have r4:=aa HR.out 4;have r5:=aa HR.out 5;have fr:=fun i=>aK HR.out i
 have k0:=aa HN.out 0;have k1:=aa HN.out 1;have k2:=aa HN.out 2;have k3:=aa HN.out 3;have k4:=aa HN.out 4;have k5:=aa HN.out 5
 go_wp2
 exact j2 results94 rfl rfl HR.out HI1.out HI2.out HB.out (aj _)
theorem ri (a b:Int):jX (a:Rat) (b:Rat)=if a<b then -1 else if b<a then 1 else 0:=by
 unfold jX;simp only[Rat.intCast_lt_intCast]
end Go.Proofs.YtpkfnnkbfphfbaaGreatDoor

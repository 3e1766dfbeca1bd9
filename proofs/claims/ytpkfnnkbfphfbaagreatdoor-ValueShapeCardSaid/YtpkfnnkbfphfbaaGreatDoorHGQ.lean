import Derived.Test.YtpkfnnkbfphfbaaGreatDoorHGX
set_option maxRecDepth 100000
set_option maxHeartbeats 40000000
open Go.Lib (hid)
namespace Go.Proofs.YtpkfnnkbfphfbaaGreatDoor.Se
open Go.RowKit Nmx Go.Proofs.Tryz
theorem qo (n:Nat):TX ((n:Nat):Rat)=⟨(aU n).toArray⟩:=by rw[←Rat.intCast_natCast];exact AY n
theorem wR {d:Nat} {p:Rat} (hp:DS d p) (hd:d≤40000) (w:World):Calls prog 169 #[.string (TX p)] w fun e w'=>e=.returned (.string (TX ((p.den:Nat):Rat)))∧Below w.heap.size w w':=by
 obtain ⟨neg,nb,db,hps,-,-,hc⟩:=bD (TX p) (by have:=DS.sz hp;omega) (dP p);have hc:=hc w;have hdb:db=TX ((p.den:Nat):Rat):=by rw[qo];exact d6 _ _ hps.2.2
 rw[←hdb.symm] at hc;have HDB:=hid hdb;generalize TX p=tp at *;generalize TX ((p.den:Nat):Rat)=td at *;clear hps hdb
 go_enter func169,ntmps169
 go_wp2_with fail
 refine hc.mono ?_;rintro e w1 ⟨rfl,hb⟩;have HB:=hid hb;clear hb hc
 go_wp2
 go_ret
 exact ⟨rfl,HB.out.alloc HB.out.size _⟩
theorem wS {d:Nat} {p:Rat} (hp:DS d p) (hd:d≤40000) (w:World):Calls prog 170 #[.string (TX p)] w fun e w'=>e=.returned (.string (TX ((p.num:Int):Rat)))∧Below w.heap.size w w':=by
 obtain ⟨neg,nb,db,hps,hn1,-,hc⟩:=bD (TX p) (by have:=DS.sz hp;omega) (dP p);have hc:=hc w;have hsz:=DS.sz hp;have hps2:PS ((p.num:Int):Rat) neg nb ⟨#[49]⟩:=⟨by rw[Rat.num_intCast];exact hps.1,by rw[Rat.num_intCast];exact hps.2.1,by rw[Rat.den_intCast];decide+kernel⟩
 have HTX:=hid fun W=>pH hps2 (by omega) (by decide) W
 have HE:Hid (TX ((p.num:Int):Rat)=⟨(bB ((p.num:Int):Rat)).toArray⟩):=hid rfl;generalize TX p=tp at *;generalize bB ((p.num:Int):Rat)=tq at *;clear hps hps2 hsz hn1
 go_enter func170,ntmps170
 go_wp2_with fail
 refine hc.mono ?_;rintro e w1 ⟨rfl,hb⟩;have HB:=hid (hb.alloc hb.size (.cells #[.bool neg,.string nb,.string db] 101));clear hb hc
 go_wp2_with fail
 refine (HTX.out _).mono ?_;rintro e w2 ⟨rfl,hb⟩;have HB2:=hid (HB.out.trans (hb.mono HB.out.size));clear hb
 go_wp2
 go_ret
 exact ⟨by rw[HE.out];rfl,HB2.out⟩
theorem gj {d:Nat} {q:Rat} (hq:DS d q) (hd:d≤2000) (h0:0≤q.num) (sort:Int) (w:World):
    Calls prog 122 #[.string (TX q),.int .i64 sort] w fun e w'=>e=.returned (.string (gZ sort q))∧Below w.heap.size w w':=by
 have HS:=hid fun W=>mS hq (by omega) W
 have HD:=hid fun W=>wR hq (by omega) W
 have HN:=hid fun W=>wS hq (by omega) W
 have hsg:¬dd q.num<0:=by unfold dd;rw[aB (by omega)];split <;> decide
 have hl1:=km hq (by omega);have hl2:=km hq.num (by omega);have hl3:(TX ((q.den:Nat):Rat)).size≤12004:=by have:=km hq.den (by omega);rw[←Rat.intCast_natCast];omega
 have hden:((TX ((q.den:Nat):Rat)).toList==[49])=decide (q.den=1):=by
  rw[qo,ByteArray.toList_eq,Bool.eq_iff_iff,beq_iff_eq,decide_eq_true_eq,←fN]
 have HP:Hid (gZ sort q=gZ sort q):=hid rfl;unfold gZ at HP ⊢;rw[show ((q.den:Int):Rat)=((q.den:Nat):Rat) from Rat.intCast_natCast _];generalize TX q=tq at *;generalize TX ((q.num:Int):Rat)=tn at *;generalize TX ((q.den:Nat):Rat)=td at *;generalize dd q.num=sg at *
 by_cases hs:sort=2
 · subst hs;rw[aF rfl];clear HD HN HP hden
   go_enter func122,ntmps122
   go_wp2_with fail
   refine (HS.out w).mono ?_;rintro e w1 ⟨rfl,hb⟩;have HB:=hid hb;clear hb
   go_wp2
   go_ret
   exact ⟨rfl,HB.out⟩
 · rw[aB hs]
   by_cases h1:q.den=1
   · rw[aF h1];rw[aH h1] at hden;clear HN HP
     go_enter func122,ntmps122
     go_wp2_with fail
     refine (HS.out w).mono ?_;rintro e w1 ⟨rfl,hb⟩;have HB:=hid hb;clear hb
     go_wp2_with fail
     refine (HD.out w1).mono ?_;rintro e w2 ⟨rfl,hb⟩;have HB2:=hid (HB.out.trans (hb.mono HB.out.size));clear hb
     go_wp2
     go_ret
     exact ⟨rfl,HB2.out⟩
   · rw[aB h1];rw[aD h1] at hden;clear HP
     go_enter func122,ntmps122
     go_wp2_with fail
     refine (HS.out w).mono ?_;rintro e w1 ⟨rfl,hb⟩;have HB:=hid hb;clear hb
     go_wp2_with fail
     refine (HD.out w1).mono ?_;rintro e w2 ⟨rfl,hb⟩;have HB2:=hid (HB.out.trans (hb.mono HB.out.size));clear hb
     go_wp2_with fail
     refine (HN.out w2).mono ?_;rintro e w3 ⟨rfl,hb⟩;have HB3:=hid (HB2.out.trans (hb.mono HB2.out.size));clear hb
     go_wp2_with fail
     refine (HD.out w3).mono ?_;rintro e w4 ⟨rfl,hb⟩;have HB4:=hid (HB3.out.trans (hb.mono HB3.out.size));clear hb
     go_wp2
     go_ret
     exact ⟨rfl,HB4.out⟩
theorem kB {d:Nat} {q:Rat} (hq:DS d q) (hd:d≤2000) (sort:Int) (w:World):
    Calls prog 122 #[.string (TX q),.int .i64 sort] w fun e w'=>e=.returned (.string (fnT sort q))∧Below w.heap.size w w':=by
 by_cases hneg:q.num<0
 · have HS:=hid fun W=>mS hq (by omega) W
   have HN:=hid fun W=>zJ hq (by omega) W
   have HF:=hid fun W=>gj hq.neg hd (show 0≤(-q).num by show 0≤-q.num;omega) sort W
   have hsg:dd q.num<0:=by unfold dd;rw[aF hneg];decide
   have hpl:=lf hq.neg hd sort;unfold ig at HN;unfold fnT;rw[aF hneg];generalize gZ sort (-q)=tp at *;generalize TX q=tq at *;generalize TX (-q)=tm at *;generalize dd q.num=sg at *;clear hneg hq
   go_enter func122,ntmps122
   go_wp2_with fail
   refine (HS.out w).mono ?_;rintro e w1 ⟨rfl,hb⟩;have HB:=hid hb;clear hb
   go_wp2_with fail
   refine (HN.out w1).mono ?_;rintro e w2 ⟨rfl,hb⟩;have HB2:=hid (HB.out.trans (hb.mono HB.out.size));clear hb
   go_wp2_with fail
   refine (HF.out w2).mono ?_;rintro e w3 ⟨rfl,hb⟩;have HB3:=hid (HB2.out.trans (hb.mono HB2.out.size));clear hb
   go_wp2
   go_ret
   exact ⟨rfl,HB3.out⟩
 · unfold fnT;rw[aB hneg];exact gj hq hd (by omega) sort w
theorem yP {z:Int} (h:Sm z):(TI z).size≤51:=by
 unfold TI;rw[pL,i7];have:=cQ (k:=50) (by decide) h;unfold bS
 split
 · rw[aw];omega
 · omega
theorem wT (V:List (ByteArray×Int)) {z:Int} (h:Sm z):Tm V 1 1 [nuN z] 2:=
 Tm.one (x:=nuN z) (wX 2 (z:Rat) (.inr ⟨rfl,Rat.den_intCast z⟩)) (show ¬(3:Int)=5 by decide) (fun e=>absurd (show (3:Int)=4 from e) (by decide)) (aP (yP h) (by decide))
theorem Be (V:List (ByteArray×Int)) {d:Int} (h:Sm d):Tm V 2 2 [coN,nuN d] 4:=by
 have h1:=wT V h;have:=Tm.node (x:=coN) (s:=4) (.cons h1 .nil:Tms V 1 1 [[nuN d]] [2]) (oS 20 _ [2] 4 (by decide) (by decide) (by decide) (by decide) (by decide) (by decide) (by decide) (by decide+kernel) (by decide+kernel) (by decide+kernel) (fun e=>absurd e (by decide))) (by decide) (fun e=>absurd e (by decide)) (by decide)
 simpa using this
theorem md (d:Int) (l:Arx.L) (p:Int×Int):tsA d (l++[p])=stN::[tsA d l,[nuN p.1],[nuN p.2]].flatten:=by
 unfold tsA kvN;rw[aE,aS,List.replicate_succ,List.flatMap_append]
 simp
theorem oO (V:List (ByteArray×Int)) {d:Int} (hd:Sm d):∀n (l:Arx.L),l.length=n→(∀p∈l,Sm p.1∧Sm p.2)→Tm V (n+2) (3*n+2) (tsA d l) 4:=by
 intro n
 induction n with
 | zero=>
   intro l hl _;obtain rfl:=List.eq_nil_of_length_eq_zero hl;exact Be V hd
 | succ n ih=>
   intro l hl hs;obtain ⟨l0,p,rfl⟩:∃l0 p,l=l0++[p]:=⟨l.dropLast,l.getLast (fun e=>by rw[e] at hl;simp at hl),(List.dropLast_concat_getLast _).symm⟩
   have hl0:l0.length=n:=by rw[aE,aS] at hl;omega
   have h0:=ih l0 hl0 (fun q hq=>hs q (List.mem_append.2 (.inl hq)));have hp:=hs p (List.mem_append.2 (.inr (List.mem_singleton.2 rfl)));have h:=Tm.node (x:=stN) (s:=4) (.cons h0 (.cons ((wT V hp.1).mono (by omega) (by omega)) (.cons ((wT V hp.2).mono (by omega) (by omega)) .nil)):Tms V (n+2) (3*n+2) [tsA d l0,[nuN p.1],[nuN p.2]] [4,2,2]) (oS 19 _ [4,2,2] 4 (by decide) (by decide) (by decide) (by decide) (by decide) (by decide) (by decide) (by decide+kernel) (by decide+kernel) (by decide+kernel) (fun e=>absurd e (by decide))) (by decide) (fun e=>absurd e (by decide)) (by decide);rw[md];refine ⟨h.wt,h.nm,h.sh,?_⟩;rw[←md,dl,hl]
   omega
theorem wU {d:Int} {l:Arx.L} (hd:Sm d) (hs:∀p∈l,Sm p.1∧Sm p.2) (hl:l.length≤200):vdF (naF (tsA d l)) (tsA d l)=true:=
 (WT.vd (oO [] hd l.length l rfl hs).wt (oO [] hd l.length l rfl hs).nm (by omega) (by rw[dl];omega)).1
def NT (d:Int) (l:Arx.L) (i:Nat) (v:Value) (W:World):Prop:=∃g c,v=.slice (some ⟨g,0,none⟩) (3*i+2) c∧NodesAt W g (tsA d (l.take i))∧g<W.heap.size
theorem NT.far {d:Int} {l:Arx.L} {i:Nat} {v:Value} {W W':World} (h:NT d l i v W) (hb:Below W.heap.size W W'):NT d l i v W':=let ⟨g,c,h1,h2,h3⟩:=h;⟨g,c,h1,h2.below hb h3,aC h3 hb.size⟩
theorem wV {d:Int} {l:Arx.L} {i:Nat} (h:i<l.length):tsA d (l.take (i+1))=stN::[tsA d (l.take i),[nuN l[i].1],[nuN l[i].2]].flatten:=by
 rw[List.take_succ_eq_append_getElem h,md]
theorem qp {d:Int} {l:Arx.L} {k u:Value} (w:World) (h:AR w d l k u) (hl:l.length≤100):
    Calls prog 25 #[bh 4 false (TI d) k u] w fun e w'=>∃g c,e=.returned (.tuple #[.slice (some ⟨g,0,none⟩) (3*l.length+2) c,.int .i64 0])∧NodesAt w' g (tsA d l)∧g<w'.heap.size∧Below w.heap.size w w':=by
 have hA:=aO w (.cells #[.int .i64 4,.bool false,.string (TI d),k,u] 24);have hq:=ij _ (h.far hA);have hX:=aq w (.cells #[.int .i64 4,.bool false,.string (TI d),k,u] 24);have HTM:=hid (oO [] h.sd l.length l rfl h.sl);have HAR:=hid h;obtain ⟨ak,ck,au,cu,rfl,rfl⟩:=h.form;unfold bh at hq ⊢;obtain ⟨n,hn⟩:∃n,l.length=n:=⟨_,rfl⟩
 have HN:=hid hn;rw[hn] at hA hq hX hl ⊢;obtain ⟨td,htd⟩:∃t,TI d=t:=⟨_,rfl⟩
 have HTD:=hid htd;rw[htd] at hA hq hX ⊢;clear hn htd h
 go_enter func25,ntmps25
 go_wp2_with fail
 generalize w.alloc (.cells #[.int .i64 4,.bool false,.string td,.slice ak n ck,.slice au n cu] 24)=w1 at *;refine hq.mono ?_;rintro e w2 ⟨rfl,hb⟩;have hX2:=(hb.block _ (ar hX)).trans hX;have hbel:=hA.trans (hb.mono hA.size);have d0:=aa hX2 0;have d2:=aa hX2 2;have HB2:=hid hbel;have HX2:=hid hX2;clear hb hq hA hX hX2 hbel
 go_wp2_with fail
 refine (iU 2 td _).mono ?_;rintro e w3 ⟨g0,rfl,h1,h2,h3,h4⟩;have hA5:=aO w3 (.cells #[.slice (some ⟨g0,0,none⟩) 1 1] 45);have hk:=BQ (t1:=[⟨3,2,⟨#[]⟩,td,0⟩]) (aq w3 (.cells #[.slice (some ⟨g0,0,none⟩) 1 1] 45)) (h1.below hA5 h2) (aC h2 hA5.size);have hj:=m5 ⟨20,0,⟨#[]⟩,⟨#[]⟩,0⟩ (some ⟨w3.heap.size,0,none⟩) w3.heap.size 1 _ _ hk (by simp) (by simp);unfold Nd.val at hj;simp only at hj;have HB3:=hid (HB2.out.trans (h4.mono HB2.out.size));have HB5:=hid (HB3.out.trans (hA5.mono HB3.out.size));have HX5:=hid ((hA5.block _ (aC (ar HX2.out) h4.size)).trans ((h4.block _ (ar HX2.out)).trans HX2.out));clear h1 h2 h3 h4 hk hA5 d0 d2 HB2 HB3 HX2
 go_wp2_with fail
 generalize w3.alloc (.cells #[.slice (some ⟨g0,0,none⟩) 1 1] 45)=w5 at *;refine hj.mono ?_;rintro e w6 ⟨g1,c0,rfl,k1,k2,k3,k4⟩;have HX6:=hid ((k4.block _ (ar HX5.out)).trans HX5.out);have HB6:=hid (HB5.out.trans (k4.mono HB5.out.size));have HNT:Hid (NT d l 0 (.slice (some ⟨g1,0,none⟩) (3*0+2) (1+([[⟨3,2,⟨#[]⟩,td,0⟩]]:List (List Nd)).flatten.length+c0)) w6):=hid ⟨g1,_,rfl,by rw[←HTD.out] at k1;exact k1,k2⟩;clear k1 k2 k3 k4 hj HX5 HB5;have d3:=aa HX6.out 3;generalize 1+([[⟨3,2,⟨#[]⟩,td,0⟩]]:List (List Nd)).flatten.length+c0=c1 at *;rw[show 1+([[⟨3,2,⟨#[]⟩,td,0⟩]]:List (List Nd)).flatten.length=3*0+2 from rfl]
 go_wp2_with fail
 go_loopg [4,5] n (fun gh u iv wr=>∃(i:Nat),gh=n-i∧i≤n∧iv=.int .i64 i∧NT d l i u wr∧eX w.heap.size td (.slice ak n ck) (.slice au n cu) wr∧Below w.heap.size w wr)
 case atStart=>exact ⟨0,rfl,aM _,rfl,HNT.out,HX6.out,HB6.out⟩
 case round=>
  obtain ⟨i,rfl,hi,rfl,hnt,hX,hb⟩:=hrel;clear d3 HNT HX6 HB6;have HX:=hid hX;have HB:=hid hb;have y3:=aa hX 3;obtain ⟨g1,c1,rfl,hN,hg⟩:=hnt;have HNA:=hid hN;have HGL:=hid hg;clear hX hb hN hg;obtain ⟨tl,htl⟩:∃tl,3*i+2=tl:=⟨_,rfl⟩
  have HTL:=hid htl;have hi0:(0:Int)≤(i:Int):=by omega
  rw[htl];have htI:¬(20000:Int)<(tl:Int):=by omega
  by_cases hlt:i<n
  · have hlt':(i:Int)<(n:Int):=by omega
    have hil:i<l.length:=by rw[HN.out];exact hlt
    have HST:=hid (wV (d:=d) hil);obtain ⟨g,o,cc,g',o',cc',e1,e2,hk,hu⟩:=(HAR.out.far HB.out).cell hil;rw[HN.out] at e1 e2;injection e1 with e1 _ e1c;injection e2 with e2 _ e2c;subst e1 e2 e1c e2c;have hsk:=(HAR.out.sl _ (List.getElem_mem hil)).1;obtain ⟨ty,hty⟩:∃t,TI l[i].1=t:=⟨_,rfl⟩
    obtain ⟨tx,htx⟩:∃t,TI l[i].2=t:=⟨_,rfl⟩
    unfold nuN at HST;rw[hty,htx] at HST;rw[hty] at hk;rw[htx] at hu;have HCW:Hid (∀W,Below wr.heap.size wr W→W.cell? ⟨g,o+i,none⟩=some (.string ty)∧W.cell? ⟨g',o'+i,none⟩=some (.string tx)):=hid fun W hW=>⟨(hW.cell (World.block_lt_of_cell? _ _ hk)).trans hk,(hW.cell (World.block_lt_of_cell? _ _ hu)).trans hu⟩
    clear hk hu hsk hty htx hil htl
    go_upto_region 15 with fail
    refine cF [[],[],[],[2],[],[2,3,4],[2,3,4,5],[2,3,4,5,6],[],[8],[],[8,9,10],[8,9,10,11],[2,3,4,5,6,7,8,9,10,11,12],[1,2,3,4,5,6,7,8,9,10,11,12,13],[0,1,2,3,4,5,6,7,8,9,10,11,12,13,14],[0,1,2,3,4,5,6,7,8,9,10,11,12,13,14,15]] (fun W=>eX w.heap.size td (.slice (some ⟨g,o,none⟩) n ck) (.slice (some ⟨g',o',none⟩) n cu) W∧(NodesAt W g1 (tsA d (l.take i))∧g1<W.heap.size)∧Below wr.heap.size wr W) (fun _=>True) ?_
    iterate 7
     apply bz
     · intro x;go_simp;done
     · intro x W R hW hF hR;have hbx:=hW.1;have c3:=aa hbx 3;have c4:=aa hbx 4;obtain ⟨q1,q2⟩:=HCW.out W hW.2.2;clear hF hbx;unfold aR
       go_simp
       simp only[aJ];exact hR _ (am _ _)
     simp only[Act.put,ac,ag,ah]
    refine mj (fun u W=>∃g,u=.slice (some ⟨g,0,none⟩) 1 1∧NodesAt W g [⟨3,2,⟨#[]⟩,ty,0⟩]∧g<W.heap.size) (fun _ _ _ h hb=>let ⟨g,h1,h2,h3⟩:=h;⟨g,h1,h2.below hb h3,aC h3 hb.size⟩) ?_ ?_ ?_
    · intro x;go_simp;done
    · intro x W R' hW hF hR;clear hF hW;unfold aR
      go_simp
      simp only[aJ];refine (iU 2 ty W).mono ?_;rintro e w4 ⟨g,rfl,h1,h2,h3,h4⟩;exact ⟨_,rfl,hR _ _ ⟨g,rfl,h1,h2⟩ h4⟩
    simp only[Act.put,ac,ag,ah,aw,aN,Nat.zero_add,Nat.reduceAdd]
    iterate 5
     apply bz
     · intro x;go_simp;done
     · intro x W R hW hF hR;have hbx:=hW.1;have c3:=aa hbx 3;have c4:=aa hbx 4;obtain ⟨q1,q2⟩:=HCW.out W hW.2.2;clear hF hbx;unfold aR
       go_simp
       simp only[aJ];exact hR _ (am _ _)
     simp only[Act.put,ac,ag,ah]
    refine mj (fun u W=>∃g,u=.slice (some ⟨g,0,none⟩) 1 1∧NodesAt W g [⟨3,2,⟨#[]⟩,tx,0⟩]∧g<W.heap.size) (fun _ _ _ h hb=>let ⟨g,h1,h2,h3⟩:=h;⟨g,h1,h2.below hb h3,aC h3 hb.size⟩) ?_ ?_ ?_
    · intro x;go_simp;done
    · intro x W R' hW hF hR;clear hF hW;unfold aR
      go_simp
      simp only[aJ];refine (iU 2 tx W).mono ?_;rintro e w4 ⟨g,rfl,h1,h2,h3,h4⟩;exact ⟨_,rfl,hR _ _ ⟨g,rfl,h1,h2⟩ h4⟩
    simp only[Act.put,ac,ag,ah,aw,aN,Nat.zero_add,Nat.reduceAdd];refine mj (fun u W=>∃K ga gb,u=.slice (some ⟨K,0,none⟩) 3 3∧W.heap[K]? =some (.cells #[.slice (some ⟨g1,0,none⟩) tl c1,.slice (some ⟨ga,0,none⟩) 1 1,.slice (some ⟨gb,0,none⟩) 1 1] 45 (0,0))∧NodesAt W ga [⟨3,2,⟨#[]⟩,ty,0⟩]∧ga<W.heap.size∧NodesAt W gb [⟨3,2,⟨#[]⟩,tx,0⟩]∧gb<W.heap.size) (fun _ _ _ h hb=>let ⟨K,ga,gb,h1,h2,h3,h4,h5,h6⟩:=h;⟨K,ga,gb,h1,(hb.block _ (ar h2)).trans h2,h3.below hb h4,aC h4 hb.size,h5.below hb h6,aC h6 hb.size⟩) ?_ ?_ ?_
    · intro x;go_simp;done
    · intro x W R' hW hF hR;obtain ⟨gb,hx13,nb,lb⟩:=hF.1.2 rfl rfl rfl;obtain ⟨ga,hx7,na,la⟩:=hF.2.2.2.2.2.2.1.2 rfl rfl rfl;clear hF;simp only[hx13,hx7];unfold aR
      go_simp
      simp only[aJ];have hb:=aO W (.cells #[.slice (some ⟨g1,0,none⟩) tl c1,.slice (some ⟨ga,0,none⟩) 1 1,.slice (some ⟨gb,0,none⟩) 1 1] 45);exact hR _ _ ⟨W.heap.size,ga,gb,rfl,aq W _,na.below hb la,aC la hb.size,nb.below hb lb,aC lb hb.size⟩ hb
    simp only[Act.put,ac,ag,ah,aw,aN,Nat.zero_add,Nat.reduceAdd];refine mj (fun u W=>NT d l (i+1) u W) (fun _ _ _ h hb=>h.far hb) ?_ ?_ ?_
    · intro x;go_simp;done
    · intro x W R' hW hF hR;obtain ⟨K,ga,gb,hx14,hK,na,la,nb,lb⟩:=hF.1.2 rfl rfl rfl;have hlen:(tsA d (l.take i)).length=tl:=by rw[dl,List.length_take,HN.out,←HTL.out];omega
      rw[←hlen] at hK;have hk:=BS (t1:=tsA d (l.take i)) (t2:=[⟨3,2,⟨#[]⟩,ty,0⟩]) (t3:=[⟨3,2,⟨#[]⟩,tx,0⟩]) hK hW.2.1.1 hW.2.1.2 na la nb lb;have hj:=m5 ⟨19,0,⟨#[]⟩,⟨#[]⟩,0⟩ (some ⟨K,0,none⟩) K 3 _ W hk (by simp[hlen];omega) (by simp);unfold Nd.val at hj;simp only at hj;clear hF;simp only[hx14];unfold aR
      go_simp
      simp only[aJ];refine hj.mono ?_;rintro e w4 ⟨g',c',rfl,m1,m2,m3,m4⟩;have hl3:1+(([tsA d (l.take i),[⟨3,2,⟨#[]⟩,ty,0⟩],[⟨3,2,⟨#[]⟩,tx,0⟩]]:List (List Nd)).flatten).length=3*(i+1)+2:=by simp[hlen];have:=HTL.out;omega
      have m1':NodesAt w4 g' (tsA d (l.take (i+1))):=by rw[HST.out];exact m1
      rw[hl3];exact ⟨_,rfl,hR _ _ ⟨g',_,rfl,m1',m2⟩ m4⟩
    simp only[Act.put,ac,ag,ah,aw,aN,Nat.zero_add,Nat.reduceAdd];refine xf (fun x=>x 16=x 15) (fun x x' hx h=>by rw[←hx 16 (.inl rfl),←hx 15 (.inr (List.contains_iff_mem.1 rfl))];exact h) ?_ ?_ ?_
    · intro x;go_simp;done
    · intro x W R' hW hF hR;clear hF hW;unfold aR
      go_simp
      simp only[aJ];refine hR _ _ ?_ (am _ _);show dK x 16 _ 16=dK x 16 _ 15;rw[dM,dS (i:=16) (j:=15) _ _ (by decide)]
    simp only[Act.put,ac,ag,ah,aw,aN,Nat.zero_add,Nat.reduceAdd];refine ie (by kernel_rfl) (by kernel_rfl) (by kernel_rfl) (fun _ _ h hb=>⟨(hb.block _ (ar h.1)).trans h.1,⟨h.2.1.1.below hb h.2.1.2,aC h.2.1.2 hb.size⟩,h.2.2.trans (hb.mono h.2.2.size)⟩) (fun _ _ _ _=>trivial) (fun _ _=>trivial) ⟨HX.out,⟨HNA.out,HGL.out⟩,(am _ _).drew⟩ ?_;intro x W hE hW hF hD;clear hD;have hY:=hF.2.1.2 rfl;have hx16:=hF.1.1;simp only[AK.free] at hx16;simp only[AK.fact] at hY;have HXX:=hid (hW rfl).1;have HBW:=hid (HB.out.trans ((hW rfl).2.2.mono HB.out.size));have HY:=hid hY;clear hF hW hY;simp only[hx16];generalize x 15=v15 at *
    go_wp2
    go_roundg (n-(i+1))
    case rel=>exact ⟨i+1,rfl,by omega,by go_num,HY.out,HXX.out,HBW.out⟩
    case measure=>omega
  · have hlt':¬((i:Int)<(n:Int)):=by omega
    obtain rfl:i=n:=by omega
    have htake:l.take i=l:=aT (by rw[HN.out];exact aj _);have hN2:NodesAt wr g1 (tsA d l):=by have:=HNA.out;rwa [htake] at this
    have hv:=dF [] (i+2) (tsA d l) 4 g1 c1 wr (by have:=HTM.out.wt;rwa [HN.out] at this) (by omega) (by rw[dl,HN.out];omega) HTM.out.nm (fun y hy=>aP (HTM.out.sh y hy) (by decide)) hN2 HGL.out;rw[dl,HN.out,HTL.out] at hv;have HV:=hid hv;have HN2:=hid hN2;clear hv hN2 htake htl
    go_wp2_with fail
    refine HV.out.mono ?_;rintro e w7 ⟨rfl,hb⟩;have HN7:=hid (HN2.out.below hb HGL.out);have HG7:=hid (aC HGL.out hb.size);have HB7:=hid (HB.out.trans (hb.mono HB.out.size));clear hb
    go_wp2
    go_ret2
    exact ⟨g1,c1,by rw[HTL.out];rfl,HN7.out,HG7.out,HB7.out⟩
def plF (n n':Nat):Bool:=n==0 && n'==0
noncomputable def vlV (s:Int) (b:Bool) (num:ByteArray) (ks us:List ByteArray):Bool:=
 if s=1 then num.toList.isEmpty && plF ks.length us.length
 else if s=2 then !b && (iN num && plF ks.length us.length)
 else if s=3 then !b && (vN num && plF ks.length us.length)
 else if s=4 then !b && vaF num ks us
 else false
theorem uj (n:Nat):n=0∨(¬(n:Int)=0∧((n:Int)==0)=false∧(0:Int)<(n:Int)∧(n==0)=false):=by
 by_cases h:n=0
 · exact .inl h
 · have h1:¬(n:Int)=0:=by omega
   exact .inr ⟨h1,beq_false_of_ne h1,by omega,beq_false_of_ne h⟩
theorem qt {s:Int} {b:Bool} {num:ByteArray} {ks us:List ByteArray} {k u:Value} (w:World) (hE:Env w) (h:VS w num ks us k u) (h4:¬s=4):
    Calls prog 12 #[bh s b num k u] w fun e w'=>e=.returned (.bool (vlV s b num ks us))∧Below w.heap.size w w':=by
 have hA:=aO w (.cells #[.int .i64 s,.bool b,.string num,k,u] 24);have HB:=hid hA;have HII:=hid fun (W:World) (hW:Below w.heap.size w W)=>gY num W (by have:=h.sn.1;omega) (hE.far hW)
 have HVV:=hid fun (W:World) (hW:Below w.heap.size w W)=>uY num W (by have:=h.sn.1;omega) (hE.far hW)
 obtain ⟨a,c,rfl⟩:=h.kr.len;obtain ⟨a',c',rfl⟩:=h.ur.len;unfold bh vlV plF;clear hA h hE;have hn:=uj ks.length;have hn':=uj us.length;generalize ks.length=n at *;generalize us.length=n' at *;generalize iN num=qi at *;generalize vN num=qv at *;obtain ⟨q0,hq0⟩:∃q,num.toList.isEmpty=q:=⟨_,rfl⟩
 rw[hq0]
 by_cases h1:s=1
 · subst h1;rw[aF rfl];clear HII HVV h4;rcases hn with rfl | ⟨g1,g2,g3,g4⟩ <;> rcases hn' with rfl | ⟨g1',g2',g3',g4'⟩ <;> cases q0 <;> cases b
   all_goals
    go_enter func12,ntmps12
    go_wp2
    go_ret
    exact ⟨ret_bool (by first | rfl | (simp;done) | (simp[g4];done) | (simp[g4'];done) | (simp[g4,g4'];done)),HB.out⟩
 · rw[aB h1]
   by_cases h2:s=2
   · subst h2;rw[aF rfl];clear HVV h4 h1 hq0;rcases hn with rfl | ⟨g1,g2,g3,g4⟩ <;> rcases hn' with rfl | ⟨g1',g2',g3',g4'⟩ <;> cases b <;> cases qi
     all_goals
      go_enter func12,ntmps12
      first
      | (go_wp2_with fail
         refine (HII.out _ HB.out).mono ?_;rintro e w1 ⟨rfl,hb⟩;have HB1:=hid (HB.out.trans (hb.mono HB.out.size));clear hb
         go_wp2
         go_ret
         exact ⟨ret_bool (by first | rfl | (simp;done) | (simp[g4];done) | (simp[g4'];done) | (simp[g4,g4'];done)),HB1.out⟩)
      | (go_wp2
         go_ret
         exact ⟨ret_bool (by first | rfl | (simp;done) | (simp[g4];done) | (simp[g4'];done) | (simp[g4,g4'];done)),HB.out⟩)
   · rw[aB h2]
     by_cases h3:s=3
     · subst h3;rw[aF rfl];clear HII h4 h1 h2 hq0;rcases hn with rfl | ⟨g1,g2,g3,g4⟩ <;> rcases hn' with rfl | ⟨g1',g2',g3',g4'⟩ <;> cases b <;> cases qv
       all_goals
        go_enter func12,ntmps12
        first
        | (go_wp2_with fail
           refine (HVV.out _ HB.out).mono ?_;rintro e w1 ⟨rfl,hb⟩;have HB1:=hid (HB.out.trans (hb.mono HB.out.size));clear hb
           go_wp2
           go_ret
           exact ⟨ret_bool (by first | rfl | (simp;done) | (simp[g4];done) | (simp[g4'];done) | (simp[g4,g4'];done)),HB1.out⟩)
        | (go_wp2
           go_ret
           exact ⟨ret_bool (by first | rfl | (simp;done) | (simp[g4];done) | (simp[g4'];done) | (simp[g4,g4'];done)),HB.out⟩)
     · rw[aB h3,aB h4];clear HII HVV hq0;rcases hn with rfl | ⟨g1,g2,g3,g4⟩ <;> rcases hn' with rfl | ⟨g1',g2',g3',g4'⟩ <;> cases b
       all_goals
        go_enter func12,ntmps12
        go_wp2
        go_ret
        exact ⟨ret_bool (by first | rfl | (simp;done) | (simp[g4];done) | (simp[g4'];done) | (simp[g4,g4'];done)),HB.out⟩
theorem me {s:Int} {b:Bool} {num:ByteArray} {ks us:List ByteArray} {k u:Value} (w:World) (h:VS w num ks us k u) (h4:¬s=4):
    Calls prog 26 #[bh s b num k u] w fun e w'=>e=.returned (.bool (vlV s b num ks us))∧Below w.heap.size w w':=by
 have hA:=aO w (.cells #[.int .i64 s,.bool b,.string num,k,u] 24);have HB:=hid hA;have HII:=hid fun (W:World) (_:Below w.heap.size w W)=>gF num W (by have:=h.sn.1;omega)
 have HVV:=hid fun (W:World) (_:Below w.heap.size w W)=>rU num W (by have:=h.sn.1;omega)
 obtain ⟨a,c,rfl⟩:=h.kr.len;obtain ⟨a',c',rfl⟩:=h.ur.len;unfold bh vlV plF;clear hA h;have hn:=uj ks.length;have hn':=uj us.length;generalize ks.length=n at *;generalize us.length=n' at *;generalize iN num=qi at *;generalize vN num=qv at *;obtain ⟨q0,hq0⟩:∃q,num.toList.isEmpty=q:=⟨_,rfl⟩
 rw[hq0]
 by_cases h1:s=1
 · subst h1;rw[aF rfl];clear HII HVV h4;rcases hn with rfl | ⟨g1,g2,g3,g4⟩ <;> rcases hn' with rfl | ⟨g1',g2',g3',g4'⟩ <;> cases q0 <;> cases b
   all_goals
    go_enter func26,ntmps26
    go_wp2
    go_ret
    exact ⟨ret_bool (by first | rfl | (simp;done) | (simp[g4];done) | (simp[g4'];done) | (simp[g4,g4'];done)),HB.out⟩
 · rw[aB h1]
   by_cases h2:s=2
   · subst h2;rw[aF rfl];clear HVV h4 h1 hq0;rcases hn with rfl | ⟨g1,g2,g3,g4⟩ <;> rcases hn' with rfl | ⟨g1',g2',g3',g4'⟩ <;> cases b <;> cases qi
     all_goals
      go_enter func26,ntmps26
      first
      | (go_wp2_with fail
         refine (HII.out _ HB.out).mono ?_;rintro e w1 ⟨rfl,hb⟩;have HB1:=hid (HB.out.trans (hb.mono HB.out.size));clear hb
         go_wp2
         go_ret
         exact ⟨ret_bool (by first | rfl | (simp;done) | (simp[g4];done) | (simp[g4'];done) | (simp[g4,g4'];done)),HB1.out⟩)
      | (go_wp2
         go_ret
         exact ⟨ret_bool (by first | rfl | (simp;done) | (simp[g4];done) | (simp[g4'];done) | (simp[g4,g4'];done)),HB.out⟩)
   · rw[aB h2]
     by_cases h3:s=3
     · subst h3;rw[aF rfl];clear HII h4 h1 h2 hq0;rcases hn with rfl | ⟨g1,g2,g3,g4⟩ <;> rcases hn' with rfl | ⟨g1',g2',g3',g4'⟩ <;> cases b <;> cases qv
       all_goals
        go_enter func26,ntmps26
        first
        | (go_wp2_with fail
           refine (HVV.out _ HB.out).mono ?_;rintro e w1 ⟨rfl,hb⟩;have HB1:=hid (HB.out.trans (hb.mono HB.out.size));clear hb
           go_wp2
           go_ret
           exact ⟨ret_bool (by first | rfl | (simp;done) | (simp[g4];done) | (simp[g4'];done) | (simp[g4,g4'];done)),HB1.out⟩)
        | (go_wp2
           go_ret
           exact ⟨ret_bool (by first | rfl | (simp;done) | (simp[g4];done) | (simp[g4'];done) | (simp[g4,g4'];done)),HB.out⟩)
     · rw[aB h3,aB h4];clear HII HVV hq0;rcases hn with rfl | ⟨g1,g2,g3,g4⟩ <;> rcases hn' with rfl | ⟨g1',g2',g3',g4'⟩ <;> cases b
       all_goals
        go_enter func26,ntmps26
        go_wp2
        go_ret
        exact ⟨ret_bool (by first | rfl | (simp;done) | (simp[g4];done) | (simp[g4'];done) | (simp[g4,g4'];done)),HB.out⟩
theorem sr {s:Int} {b:Bool} {num:ByteArray} {ks us:List ByteArray} {k u:Value} (w:World) (hE:Env w) (h:VS w num ks us k u):
    Calls prog 12 #[bh s b num k u] w fun e w'=>e=.returned (.bool (vlV s b num ks us))∧Below w.heap.size w w':=by
 by_cases h4:s=4
 · subst h4;exact sm w hE h
 · exact qt w hE h h4
theorem kC {s:Int} {b:Bool} {num:ByteArray} {ks us:List ByteArray} {k u:Value} (w:World) (h:VS w num ks us k u):
    Calls prog 26 #[bh s b num k u] w fun e w'=>e=.returned (.bool (vlV s b num ks us))∧Below w.heap.size w w':=by
 by_cases h4:s=4
 · subst h4;exact ng w h
 · exact me w h h4
end Go.Proofs.YtpkfnnkbfphfbaaGreatDoor.Se

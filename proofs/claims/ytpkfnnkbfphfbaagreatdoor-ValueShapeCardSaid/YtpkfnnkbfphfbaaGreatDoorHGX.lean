import Derived.Test.YtpkfnnkbfphfbaaGreatDoorHFG
import Derived.Test.YtpkfnnkbfphfbaaGreatDoorHGI
set_option maxRecDepth 100000
set_option maxHeartbeats 40000000
open Go.Lib (hid)
namespace Go.Proofs.YtpkfnnkbfphfbaaGreatDoor.Se
open Go.RowKit Nmx Go.Proofs.Tryz
theorem WE.mono {p d:Nat} {ts:List Nd} {ss:List Int} {E:List Nat} {S:List Int} (h:WE p d ts ss E S):∀d',d≤d'→WE p d' ts ss E S:=by
 induction h with
 | nil=>intro d' _;exact .nil _ _
 | @cons p d x ks rest ss rs s Ek Er Sk Sr hk hn hr ihk ihr=>
   intro d' hd;obtain ⟨e,rfl⟩:∃e,d'=e+1:=⟨d'-1,by omega⟩
   exact .cons (ihk e (by omega)) hn (ihr (e+1) hd)
theorem WE.shift {p d:Nat} {ts:List Nd} {ss:List Int} {E:List Nat} {S:List Int} (h:WE p d ts ss E S):∀p',∃E',WE p' d ts ss E' S:=by
 induction h with
 | nil=>intro p';exact ⟨_,.nil _ _⟩
 | @cons p d x ks rest ss rs s Ek Er Sk Sr hk hn hr ihk ihr=>
   intro p';obtain ⟨F,hF⟩:=ihk (p'+1);obtain ⟨G,hG⟩:=ihr (p'+1+ks.length);exact ⟨_,.cons hF hn hG⟩
theorem WE.app {p d:Nat} {ts:List Nd} {ss:List Int} {E:List Nat} {S:List Int} (h:WE p d ts ss E S):∀us rs F U,WE (p+ts.length) d us rs F U→∃E' S',WE p d (ts++us) (ss++rs) E' S':=by
 induction h with
 | nil=>intro us rs F U h;exact ⟨_,_,by simpa using h⟩
 | @cons p d x ks rest ss rs s Ek Er Sk Sr hk hn hr ihk ihr=>
   intro us qs F U hu
   obtain ⟨E',S',h'⟩:=ihr us qs F U (by
    rw[show p+1+ks.length+rest.length=p+(x::(ks++rest)).length by simp only[aw,aE];omega];exact hu)
   have h2:=WE.cons hk hn h';rw[←List.append_assoc] at h2;exact ⟨_,_,h2⟩
theorem WT.mono {d d':Nat} {ts:List Nd} {s:Int} (h:WT d ts s) (hd:d≤d'):WT d' ts s:=let ⟨E,S,h⟩:=h;⟨E,S,h.mono d' hd⟩
structure Tm (V:List (ByteArray×Int)) (D Z:Nat) (ts:List Nd) (s:Int):Prop where
 wt:WT D ts s
 nm:Nm V ts
 sh:∀y∈ts,y.num.size≤60
 le:ts.length≤Z
theorem Tm.mono {V:List (ByteArray×Int)} {D D' Z Z':Nat} {ts:List Nd} {s:Int} (h:Tm V D Z ts s) (hd:D≤D') (hz:Z≤Z'):Tm V D' Z' ts s:=⟨h.wt.mono hd,h.nm,h.sh,aP h.le hz⟩
inductive Tms (V:List (ByteArray×Int)) (D Z:Nat):List (List Nd)→List Int→Prop
 | nil:Tms V D Z [] []
 | cons {t:List Nd} {s:Int} {L:List (List Nd)} {ss:List Int}:Tm V D Z t s→Tms V D Z L ss→Tms V D Z (t::L) (s::ss)
theorem Tms.len {V:List (ByteArray×Int)} {D Z:Nat} {L:List (List Nd)} {ss:List Int} (h:Tms V D Z L ss):L.length=ss.length∧L.flatten.length≤L.length*Z:=by
 induction h with
 | nil=>exact ⟨rfl,by simp⟩
 | cons ht _ ih=>have:=ht.le;simp only[aw,List.flatten_cons,aE];exact ⟨by omega,by rw[Nat.succ_mul];omega⟩
theorem Tms.we {V:List (ByteArray×Int)} {D Z:Nat} {L:List (List Nd)} {ss:List Int} (h:Tms V D Z L ss):∀p,∃E S,WE p D L.flatten ss E S:=by
 induction h with
 | nil=>intro p;exact ⟨_,_,.nil _ _⟩
 | @cons t s L ss ht _ ih=>
   intro p;obtain ⟨E,S,h0⟩:=ht.wt;obtain ⟨E1,h1⟩:=h0.shift p;obtain ⟨E2,S2,h2⟩:=ih (p+t.length);exact h1.app _ _ _ _ h2
theorem Tm.node {V:List (ByteArray×Int)} {D Z:Nat} {L:List (List Nd)} {ss:List Int} (h:Tms V D Z L ss) {x:Nd} {s:Int} (hn:NodeOk x L.flatten ss s) (h5:¬x.op=5) (h4:x.op=4→cp x.name V=some x.sort) (hs:x.num.size≤60):Tm V (D+1) (1+L.length*Z) (x::L.flatten) s:=by
 obtain ⟨E,S,hw⟩:=h.we 1;have hl:=h.len.2
 have hall:∀y∈L.flatten,(¬y.op=5∧(y.op=4→cp y.name V=some y.sort))∧y.num.size≤60:=by
  clear hn hw hl
  induction h with
  | nil=>intro y hy;cases hy
  | cons ht _ ih=>
    intro y hy;rw[List.flatten_cons,List.mem_append] at hy;rcases hy with hy | hy
    · exact ⟨ht.nm y hy,ht.sh y hy⟩
    · exact ih y hy
 have h2:=WE.cons (p:=0) hw hn (.nil _ _);rw[List.append_nil] at h2;refine ⟨⟨_,_,h2⟩,?_,?_,by rw[aw];omega⟩
 · intro y hy;rcases List.mem_cons.1 hy with rfl | hy
   · exact ⟨h5,h4⟩
   · exact (hall y hy).1
 · intro y hy;rcases List.mem_cons.1 hy with rfl | hy
   · exact hs
   · exact (hall y hy).2
theorem Tm.one {V:List (ByteArray×Int)} {x:Nd} {s:Int} (hn:NodeOk x [] [] s) (h5:¬x.op=5) (h4:x.op=4→cp x.name V=some x.sort) (hs:x.num.size≤60):Tm V 1 1 [x] s:=by
 have:=Tm.node (D:=0) (Z:=0) (.nil:Tms V 0 0 [] []) hn h5 h4 hs
 simpa using this
theorem AD:(⟨#[]⟩:ByteArray).toList.isEmpty=true:=by decide+kernel
def ndE (op:Int) (n:Nat):Nd:=⟨op,0,⟨#[]⟩,⟨#[]⟩,n⟩
theorem oS (op:Int) (ks:List Nd) (ss:List Int) (s:Int) (h1:1≤op) (h2:op≤20) (h3:¬op=3) (h4:¬op=4) (h5:¬op=5) (h6:¬op=16) (h7:¬op=17) (ha:(arF op).1≤ss.length) (hb:(ss.length:Int)≤(arF op).2) (hr:rsF op 0 ss=(s,true)) (hm:op=15→(ks.getD 0 ndZ).op=3):NodeOk (ndE op ss.length) ks ss s:=by
 refine ⟨?_,rfl,hr,hm⟩;unfold fpF ndE fdF;simp only[h1,h2,ha,hb,decide_true,Bool.true_and];rw[aB h3,aB (by omega),aB (by omega),AD];rfl
theorem Ad (q:Rat):vN (TX q)=true:=by unfold vN;rw[dP];rfl
theorem Bg {q:Rat} (h:q.den=1):iN (TX q)=true:=by unfold iN;rw[dP];simp[h]
def Bh (sort:Int) (q:Rat):Nd:=⟨3,sort,⟨#[]⟩,TX q,0⟩
theorem wX (sort:Int) (q:Rat) (h:sort=3∨sort=2∧q.den=1):NodeOk (Bh sort q) [] [] sort:=by
 refine ⟨?_,rfl,rfl,fun e=>by cases e⟩;rcases h with rfl | ⟨rfl,hq⟩
 · show ((⟨#[]⟩:ByteArray).toList.isEmpty && (vN (TX q) && true))=true;rw[Ad,AD];rfl
 · show ((⟨#[]⟩:ByteArray).toList.isEmpty && (vN (TX q) && iN (TX q)))=true;rw[Ad,Bg hq,AD];rfl
def vs8:List (ByteArray×Int):=[(⟨#[120]⟩,2),(⟨#[121]⟩,2),(⟨#[122]⟩,3),(⟨#[119]⟩,3),(⟨#[112]⟩,1),(⟨#[98]⟩,1),(⟨#[97]⟩,4),(⟨#[99]⟩,4)]
theorem BQ {w:World} {K g1 c1:Nat} {t1:List Nd} {ty:TypeId} {fr:Nat×Nat} (hK:w.heap[K]? =some (.cells #[.slice (some ⟨g1,0,none⟩) t1.length c1] ty fr)) (h1:NodesAt w g1 t1) (l1:g1<w.heap.size):Kds w (some ⟨K,0,none⟩) K [t1]:=by
 refine ⟨fun _=>rfl,ar hK,fun j t ht=>?_⟩
 match j,ht with
 | 0,ht=>cases ht;exact ⟨g1,c1,aa hK 0,h1,l1⟩
theorem BS {w:World} {K g1 c1 g2 c2 g3 c3:Nat} {t1 t2 t3:List Nd} {ty:TypeId} {fr:Nat×Nat} (hK:w.heap[K]? =some (.cells #[.slice (some ⟨g1,0,none⟩) t1.length c1,.slice (some ⟨g2,0,none⟩) t2.length c2,.slice (some ⟨g3,0,none⟩) t3.length c3] ty fr)) (h1:NodesAt w g1 t1) (l1:g1<w.heap.size) (h2:NodesAt w g2 t2) (l2:g2<w.heap.size) (h3:NodesAt w g3 t3) (l3:g3<w.heap.size):Kds w (some ⟨K,0,none⟩) K [t1,t2,t3]:=by
 refine ⟨fun _=>rfl,ar hK,fun j t ht=>?_⟩
 match j,ht with
 | 0,ht=>cases ht;exact ⟨g1,c1,aa hK 0,h1,l1⟩
 | 1,ht=>cases ht;exact ⟨g2,c2,aa hK 1,h2,l2⟩
 | 2,ht=>cases ht;exact ⟨g3,c3,aa hK 2,h3,l3⟩
theorem sE (C:Nat) (ao:Option Addr) (n cap:Nat) (s:Int) (w:World) (h:Ch C ao n cap w) (hs:s=2∨s=3):
    Calls prog 39 #[.pointer (some ⟨C,0,none⟩),.int .i64 s] w fun e w'=>∃q:Rat,DS 26 q∧(s=3∨s=2∧q.den=1)∧e=.returned (.string (TX q))∧Ch C ao n cap w'∧w.grownBy w' (some C):=by
 have h1:=eO C ao n cap w h;have h2:=tG C ao n cap w h;clear h;rcases hs with rfl | rfl
 · clear h2
   go_enter func39,ntmps39
   go_wp2_with fail
   refine h1.mono ?_;rintro e w1 ⟨z,hz,rfl,hch,hg⟩;have HC:=hid hch;have HG:=hid hg;have HD:Hid (DS 26 ((z:Int):Rat)∧(((2:Int)=3)∨(2:Int)=2∧((z:Int):Rat).den=1)):=hid ⟨⟨Nat.lt_of_lt_of_le (DS.int (d:=24) hz).1 (Nat.pow_le_pow_right (by omega) (by omega)),Nat.le_trans (DS.int (d:=24) hz).2 (Nat.pow_le_pow_right (by omega) (by omega))⟩,.inr ⟨rfl,rfl⟩⟩;clear hch hg hz h1;generalize ((z:Int):Rat)=q at *
   go_wp2
   go_ret
   exact ⟨q,HD.out.1,HD.out.2,rfl,HC.out,HG.out⟩
 · clear h1
   go_enter func39,ntmps39
   go_wp2_with fail
   refine h2.mono ?_;rintro e w1 ⟨q,hq,rfl,hch,hg⟩;have HC:=hid hch;have HG:=hid hg;have HD:=hid hq;clear hch hg hq h2
   go_wp2
   go_ret
   exact ⟨q,HD.out,.inl (by decide),rfl,HC.out,HG.out⟩
theorem AE:OkT ⟨#[]⟩:=OkT.of50 (by decide)
theorem AF {q:Rat} (h:DS 26 q):OkT (TX q):=by
 refine ⟨by have:=DS.sz h;omega,fun hi=>?_⟩;unfold iN at hi;rw[dP] at hi;have hd:q.den=1:=of_decide_eq_true hi;have hz:((q.num:Int):Rat)=q:=Rat.ext (Rat.num_intCast _) ((Rat.den_intCast _).trans hd.symm);exact ⟨q.num,by unfold TI;rw[hz],aC h.1 (Nat.pow_le_pow_right (by decide) (by decide))⟩
theorem qz (w:World):RRow w (.slice none 0 0) []:=⟨⟨none,0,rfl,fun _=>rfl,aj _⟩,fun hj=>by cases hj⟩
theorem wY (w:World) {num:ByteArray} (h:OkT num):VS w num [] [] (.slice none 0 0) (.slice none 0 0):=
 ⟨qz w,qz w,aM _,aM _,h,(fun t ht=>by cases ht),(fun t ht=>by cases ht)⟩
theorem AV.vs {S:Nat} {w:World} {d:Int} {l:Arx.L} {k u:Value} (h:AV S w d l k u) (hl:l.length≤12):VS w (TI d) (kT l) (vT l) k u:=
 ⟨h.rd.ks,h.rd.us,by simpa [kT] using hl,by simpa [vT] using hl,OkT.ti h.sd,
   fun t ht=>by obtain ⟨p,hp,rfl⟩:=List.mem_map.1 ht;exact OkT.ti (h.sl p hp).1,
   fun t ht=>by obtain ⟨p,hp,rfl⟩:=List.mem_map.1 ht;exact OkT.ti (h.sl p hp).2⟩
def DV (w:World) (v:Value):Prop:=∃(s:Int) (b:Bool) (num:ByteArray) (ks us:List ByteArray) (k u:Value),v=bh s b num k u∧∀w':World,(∀g:Nat,(∃cs fr,w.heap[g]? =some (.cells cs 9 fr))→w'.heap[g]? =w.heap[g]?)→VS w' num ks us k u
theorem AG (C:Nat) (ao:Option Addr) (n cap:Nat) (s:Int) (hs:s=1∨s=2∨s=3∨s=4) (w:World) (h:Ch C ao n cap w):
    Calls prog 16 #[.pointer (some ⟨C,0,none⟩),.int .i64 s] w fun e w'=>∃v,e=.returned v∧DV w' v∧w.grownBy w' (some C):=by
 by_cases h4:s=4
 · subst h4;refine (AB C ao n cap w h).mono ?_;rintro e w' ⟨d,l,k,u,rfl,hav,hl,-,hg⟩;exact ⟨_,rfl,⟨4,false,TI d,kT l,vT l,k,u,rfl,fun w2 h2=>(hav.blocks fun g _ hh=>h2 g hh).vs (by omega)⟩,hg⟩
 · have hA:=aO w (.cells #[.int .i64 0,.bool false,.string ⟨#[]⟩,.slice none 0 0,.slice none 0 0] 24);have HX:=hid (aq w (.cells #[.int .i64 0,.bool false,.string ⟨#[]⟩,.slice none 0 0,.slice none 0 0] 24));have hch:=h.call hA;have HCL:Hid (C<w.heap.size):=hid h.lt;have HG:=hid (dt (r:=some C) (cx hA))
   by_cases h1:s=1
   · subst h1;have HN:=hid (ek C ao n cap _ 2 (by decide) (by decide) hch);clear h hA hch hs h4
     go_enter func16,ntmps16
     go_wp2_with fail
     generalize hw1:w.alloc _=w1 at *;refine HN.out.mono ?_;rintro e w2 ⟨r,hr,rfl,-,hg,-⟩;have hX2:=(hg.block _ (ar HX.out) (fun e=>by have:=aI e;have:=HCL.out;omega)).trans HX.out;have HG2:=hid (grown_trans HG.out hg);have f0:=aa hX2 0;have f1:=aa hX2 1;have f2:=aa hX2 2;have f3:=aa hX2 3;have f4:=aa hX2 4;have g0:=aK hX2 0;have g1:=aK hX2 1;have g2:=aK hX2 2;have g3:=aK hX2 3;have g4:=aK hX2 4;have HX2:=hid hX2;clear hg hX2 HN
     go_wp2
     obtain ⟨q,hq⟩:∃q,((r:Int)==1)=q:=⟨_,rfl⟩
     rw[hq];obtain ⟨s1,s2,s3⟩:=m9 HX2.out (.int .i64 1) (.bool q) (.string ⟨#[]⟩) (.slice none 0 0) (.slice none 0 0);have hbw:=s3 (am w.heap.size w2) (aj _);refine d8 rfl rfl rfl ⟨_,_,_,rfl⟩ ⟨_,_,_,rfl⟩ s1 ⟨_,rfl,⟨1,q,⟨#[]⟩,[],[],_,_,rfl,fun _ _=>wY _ AE⟩,⟨hbw.os.trans HG2.out.os,hbw.tape.trans HG2.out.tape,hbw.output.trans HG2.out.output,aP HG2.out.size hbw.size,fun k hk hne=>(s2 k (by omega)).trans (HG2.out.block k hk hne)⟩⟩
   · have hs23:s=2∨s=3:=by omega
     have HN:=hid (sE C ao n cap s _ hch hs23);clear h hA hch hs;rcases hs23 with rfl | rfl
     all_goals
      go_enter func16,ntmps16
      go_wp2_with fail
      generalize hw1:w.alloc _=w1 at *;refine HN.out.mono ?_;rintro e w2 ⟨q,hq,-,rfl,-,hg⟩;have hX2:=(hg.block _ (ar HX.out) (fun e=>by have:=aI e;have:=HCL.out;omega)).trans HX.out;have HG2:=hid (grown_trans HG.out hg);have HOK:=hid (AF hq);have f0:=aa hX2 0;have f1:=aa hX2 1;have f2:=aa hX2 2;have f3:=aa hX2 3;have f4:=aa hX2 4;have g0:=aK hX2 0;have g1:=aK hX2 1;have g2:=aK hX2 2;have g3:=aK hX2 3;have g4:=aK hX2 4;have HX2:=hid hX2;clear hg hX2 HN hq;generalize TX q=tq at *
      go_wp2
      obtain ⟨s1,s2,s3⟩:=m9 HX2.out (.int .i64 _) (.bool false) (.string tq) (.slice none 0 0) (.slice none 0 0);have hbw:=s3 (am w.heap.size w2) (aj _);refine d8 rfl rfl rfl ⟨_,_,_,rfl⟩ ⟨_,_,_,rfl⟩ s1 ⟨_,rfl,⟨_,false,tq,[],[],_,_,rfl,fun _ _=>wY _ HOK.out⟩,⟨hbw.os.trans HG2.out.os,hbw.tape.trans HG2.out.tape,hbw.output.trans HG2.out.output,aP HG2.out.size hbw.size,fun k hk hne=>(s2 k (by omega)).trans (HG2.out.block k hk hne)⟩⟩
theorem yT (ao:Option Addr) (len cap:Nat) (w:World) (h:ArgI w ao len cap):
    Calls prog 23 #[.slice ao len cap] w fun e w'=>∃v,e=.returned v∧DV w' v∧Below w.heap.size w w':=by
 have hA:=aO w (.cells #[.int .i64 0,.bool false,.string ⟨#[]⟩,.slice none 0 0,.slice none 0 0] 24);have HX:=hid (aq w (.cells #[.int .i64 0,.bool false,.string ⟨#[]⟩,.slice none 0 0,.slice none 0 0] 24));have HA:=hid hA;have hS:(w.alloc (.cells #[.int .i64 0,.bool false,.string ⟨#[]⟩,.slice none 0 0,.slice none 0 0] 24)).heap.size=w.heap.size+1:=by simp
 have HARG:=hid (ArgI.belowV h hA);clear h hA;generalize hw1:w.alloc (.cells #[.int .i64 0,.bool false,.string ⟨#[]⟩,.slice none 0 0,.slice none 0 0] 24)=w1 at *;have hnew:=zu ao len cap w1 HARG.out;have hch:=yO HARG.out;unfold uT at hnew;have hal:=aO w1 (.cells #[.slice ao (min len 400) cap,.int .i64 0] 60);have HX2:=hid ((hal.block _ (ar HX.out)).trans HX.out);have HB2:=hid (HA.out.trans (hal.mono HA.out.size));obtain ⟨C,hC⟩:∃C,w1.heap.size=C:=⟨_,rfl⟩
 rw[hC] at hnew hch hS;have HCS:Hid (C=w.heap.size+1):=hid hS;generalize hw2:w1.alloc (.cells #[.slice ao (min len 400) cap,.int .i64 0] 60)=w2 at *;have HCH:=hid hch;clear hch hal hC hS HX HARG hw2
 go_enter func23,ntmps23
 go_wp2_with fail
 clear hw1;refine hnew.mono ?_;rintro e w3 ⟨rfl,rfl⟩;clear hnew;have HN:=hid (ek C ao (min len 400) cap w3 4 (by decide) (by decide) HCH.out)
 go_wp2_with fail
 refine HN.out.mono ?_;rintro e w4 ⟨r,hr,rfl,hch,hg,-⟩;have HX4:=hid ((hg.block _ (ar HX2.out) (fun e=>by have:=aI e;have:=HCS.out;omega)).trans HX2.out);have HB4:=hid (HB2.out.grown hg (by have:=ar HX2.out;omega) (fun k e=>by have:=aI e;have:=HCS.out;omega));have HV:=hid (AG C ao (min len 400) cap (1+(r:Int)) (by omega) w4 hch);have hw5:IntKind.i64.wrap (1+(r:Int))=1+(r:Int):=by rw[IntKind.wrap_i64];omega
 clear hch hg HN HCH hr
 go_wp2_with fail
 refine HV.out.mono ?_;rintro e w5 ⟨v,rfl,⟨s,b,num,ks,us,k,u,rfl,hdv⟩,hg⟩;have hvs:=hdv w5 (fun _ _=>rfl);obtain ⟨a1,c1,rfl⟩:=hvs.kr.len;obtain ⟨a2,c2,rfl⟩:=hvs.ur.len;have HDV:=hid hdv;unfold bh;have hX5:=(hg.block _ (ar HX4.out) (fun e=>by have:=aI e;have:=HCS.out;omega)).trans HX4.out;have HB5:=hid (HB4.out.grown hg (by have:=ar HX4.out;omega) (fun k e=>by have:=aI e;have:=HCS.out;omega));have g0:=aK hX5 0;have g1:=aK hX5 1;have g2:=aK hX5 2;have g3:=aK hX5 3;have g4:=aK hX5 4;have f0:=aa hX5 0;have f1:=aa hX5 1;have f2:=aa hX5 2;have f3:=aa hX5 3;have f4:=aa hX5 4;have HX5:=hid hX5;clear hvs hdv hg hX5 HV
 go_wp2
 obtain ⟨s1,s2,s3⟩:=m9 HX5.out (.int .i64 s) (.bool b) (.string num) (.slice a1 ks.length c1) (.slice a2 us.length c2);refine d8 rfl rfl rfl ⟨_,_,_,rfl⟩ ⟨_,_,_,rfl⟩ s1 ⟨_,rfl,⟨s,b,num,ks,us,_,_,rfl,fun w' h'=>HDV.out w' fun g hg=>?_⟩,s3 HB5.out (aj _)⟩
 have hne:g≠w.heap.size:=fun e=>by
  subst e;obtain ⟨cs,fr,hh⟩:=hg;have:=HX5.out.symm.trans hh;injection aI this with _ e2 _;exact absurd e2 (by decide)
 obtain ⟨cs,fr,hh⟩:=hg;exact (h' g ⟨cs,fr,(s2 g hne).trans hh⟩).trans (s2 g hne)
end Go.Proofs.YtpkfnnkbfphfbaaGreatDoor.Se

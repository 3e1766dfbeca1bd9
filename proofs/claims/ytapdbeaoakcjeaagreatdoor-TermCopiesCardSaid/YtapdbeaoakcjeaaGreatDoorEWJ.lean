/- Terms put together out of terms (tC part). -/
import Derived.Test.YtapdbeaoakcjeaaGreatDoorETC
import Derived.Test.YtapdbeaoakcjeaaGreatDoorERG
import Derived.Test.YtapdbeaoakcjeaaGreatDoorEWH
import Derived.Test.YtapdbeaoakcjeaaGreatDoorEVD
import Derived.Test.YtapdbeaoakcjeaaGreatDoorENV
set_option maxRecDepth 100000
set_option maxHeartbeats 40000000
open Go.Lib (hid)
namespace Go.Proofs.YtapdbeaoakcjeaaGreatDoor.Se
open Go.RowKit Nmx
theorem WE.mono {p d:Nat} {ts:List Nd} {ss:List Int} {E:List Nat} {S:List Int} (h:WE p d ts ss E S):∀d',d≤d'→WE p d' ts ss E S:=by
 induction h with
 | nil=>intro d' _;exact .nil _ _
 | @cons p d x ks rest ss rs s Ek Er Sk Sr hk hn hr ihk ihr=>
   intro d' hd;obtain ⟨e,rfl⟩:∃e,d'=e+1:=⟨d'-1,by omega⟩
   exact .cons (ihk e (by omega)) hn (ihr (e+1) hd)
theorem WE.shift {p d:Nat} {ts:List Nd} {ss:List Int} {E:List Nat} {S:List Int} (h:WE p d ts ss E S):∀p',∃E',WE p' d ts ss E' S:=by
 induction h with
 | nil=>intro p';exact ⟨_,.nil _ _⟩
 | @cons p d x ks rest ss rs s Ek Er Sk Sr hk hn hr ihk ihr=>
   intro p';obtain ⟨F,hF⟩:=ihk (p'+1);obtain ⟨G,hG⟩:=ihr (p'+1+ks.length);exact ⟨_,.cons hF hn hG⟩
theorem WE.app {p d:Nat} {ts:List Nd} {ss:List Int} {E:List Nat} {S:List Int} (h:WE p d ts ss E S):∀us rs F U,WE (p+ts.length) d us rs F U→∃E' S',WE p d (ts++us) (ss++rs) E' S':=by
 induction h with
 | nil=>intro us rs F U h;exact ⟨_,_,by simpa using h⟩
 | @cons p d x ks rest ss rs s Ek Er Sk Sr hk hn hr ihk ihr=>
   intro us qs F U hu
   obtain ⟨E',S',h'⟩:=ihr us qs F U (by
    rw[show p+1+ks.length+rest.length=p+(x::(ks++rest)).length by simp only[au,aA];omega];exact hu)
   have h2:=WE.cons hk hn h';rw[←List.append_assoc] at h2;exact ⟨_,_,h2⟩
theorem WT.mono {d d':Nat} {ts:List Nd} {s:Int} (h:WT d ts s) (hd:d≤d'):WT d' ts s:=let ⟨E,S,h⟩:=h;⟨E,S,h.mono d' hd⟩
structure Tm (V:List (ByteArray×Int)) (D Z:Nat) (ts:List Nd) (s:Int):Prop where
 wt:WT D ts s
 nm:Nm V ts
 sh:∀y∈ts,y.num.size≤60
 le:ts.length≤Z
theorem Tm.mono {V:List (ByteArray×Int)} {D D' Z Z':Nat} {ts:List Nd} {s:Int} (h:Tm V D Z ts s) (hd:D≤D') (hz:Z≤Z'):Tm V D' Z' ts s:=⟨h.wt.mono hd,h.nm,h.sh,aC h.le hz⟩
inductive Tms (V:List (ByteArray×Int)) (D Z:Nat):List (List Nd)→List Int→Prop
 | nil:Tms V D Z [] []
 | cons {t:List Nd} {s:Int} {L:List (List Nd)} {ss:List Int}:Tm V D Z t s→Tms V D Z L ss→Tms V D Z (t::L) (s::ss)
theorem Tms.len {V:List (ByteArray×Int)} {D Z:Nat} {L:List (List Nd)} {ss:List Int} (h:Tms V D Z L ss):L.length=ss.length∧L.flatten.length≤L.length*Z:=by
 induction h with
 | nil=>exact ⟨rfl,by simp⟩
 | cons ht _ ih=>have:=ht.le;simp only[au,List.flatten_cons,aA];exact ⟨by omega,by rw[Nat.succ_mul];omega⟩
theorem Tms.we {V:List (ByteArray×Int)} {D Z:Nat} {L:List (List Nd)} {ss:List Int} (h:Tms V D Z L ss):∀p,∃E S,WE p D L.flatten ss E S:=by
 induction h with
 | nil=>intro p;exact ⟨_,_,.nil _ _⟩
 | @cons t s L ss ht _ ih=>
   intro p;obtain ⟨E,S,h0⟩:=ht.wt;obtain ⟨E1,h1⟩:=h0.shift p;obtain ⟨E2,S2,h2⟩:=ih (p+t.length);exact h1.app _ _ _ _ h2
theorem Tm.node {V:List (ByteArray×Int)} {D Z:Nat} {L:List (List Nd)} {ss:List Int} (h:Tms V D Z L ss) {x:Nd} {s:Int} (hn:NodeOk x L.flatten ss s) (h5:¬x.op=5) (h4:x.op=4→bh x.name V=some x.sort) (hs:x.num.size≤60):Tm V (D+1) (1+L.length*Z) (x::L.flatten) s:=by
 obtain ⟨E,S,hw⟩:=h.we 1;have hl:=h.len.2
 have hall:∀y∈L.flatten,(¬y.op=5∧(y.op=4→bh y.name V=some y.sort))∧y.num.size≤60:=by
  clear hn hw hl
  induction h with
  | nil=>intro y hy;cases hy
  | cons ht _ ih=>
    intro y hy;rw[List.flatten_cons,List.mem_append] at hy;rcases hy with hy | hy
    · exact ⟨ht.nm y hy,ht.sh y hy⟩
    · exact ih y hy
 have h2:=WE.cons (p:=0) hw hn (.nil _ _);rw[List.append_nil] at h2;refine ⟨⟨_,_,h2⟩,?_,?_,by rw[au];omega⟩
 · intro y hy;rcases List.mem_cons.1 hy with rfl | hy
   · exact ⟨h5,h4⟩
   · exact (hall y hy).1
 · intro y hy;rcases List.mem_cons.1 hy with rfl | hy
   · exact hs
   · exact (hall y hy).2
theorem Tm.one {V:List (ByteArray×Int)} {x:Nd} {s:Int} (hn:NodeOk x [] [] s) (h5:¬x.op=5) (h4:x.op=4→bh x.name V=some x.sort) (hs:x.num.size≤60):Tm V 1 1 [x] s:=by
 have:=Tm.node (D:=0) (Z:=0) (.nil:Tms V 0 0 [] []) hn h5 h4 hs
 simpa using this
theorem wV:(⟨#[]⟩:ByteArray).toList.isEmpty=true:=by decide+kernel
def ndE (op:Int) (n:Nat):Nd:=⟨op,0,⟨#[]⟩,⟨#[]⟩,n⟩
theorem bt (op:Int) (ks:List Nd) (ss:List Int) (s:Int) (h1:1≤op) (h2:op≤20) (h3:¬op=3) (h4:¬op=4) (h5:¬op=5) (h6:¬op=16) (h7:¬op=17) (ha:(arF op).1≤ss.length) (hb:(ss.length:Int)≤(arF op).2) (hr:rsF op 0 ss=(s,true)) (hm:op=15→(ks.getD 0 ndZ).op=3):NodeOk (ndE op ss.length) ks ss s:=by
 refine ⟨?_,rfl,hr,hm⟩;unfold fpF ndE fdF;simp only[h1,h2,ha,hb,decide_true,Bool.true_and];rw[if_neg h3,if_neg (by omega),if_neg (by omega),wV];rfl
theorem wW (q:Rat):vN (TX q)=true:=by unfold vN;rw[iE];rfl
theorem iR {q:Rat} (h:q.den=1):iN (TX q)=true:=by unfold iN;rw[iE];simp[h]
theorem zV (q:Rat):sN (TX q)=cR q.num:=by unfold sN;rw[iE];rfl
def dI (sort:Int) (q:Rat):Nd:=⟨3,sort,⟨#[]⟩,TX q,0⟩
theorem zk (sort:Int) (q:Rat) (h:sort=3∨sort=2∧q.den=1):NodeOk (dI sort q) [] [] sort:=by
 refine ⟨?_,rfl,rfl,fun e=>by cases e⟩;rcases h with rfl | ⟨rfl,hq⟩
 · show ((⟨#[]⟩:ByteArray).toList.isEmpty && (vN (TX q) && true))=true;rw[wW,wV];rfl
 · show ((⟨#[]⟩:ByteArray).toList.isEmpty && (vN (TX q) && iN (TX q)))=true;rw[wW,iR hq,wV];rfl
def tj (name:ByteArray) (sort:Int):Nd:=⟨4,sort,name,⟨#[]⟩,0⟩
theorem zl (name:ByteArray) (sort:Int) (h:srF sort=true) (hn:bH name.toList=true):NodeOk (tj name sort) [] [] sort:=by
 refine ⟨?_,rfl,rfl,fun e=>by cases e⟩;show (srF sort && (bH name.toList && (⟨#[]⟩:ByteArray).toList.isEmpty))=true;rw[h,hn,wV];rfl
theorem zm (op:Int) (q:Rat) (ks:List Nd) (ho:op=16∨op=17) (hq:q.den=1) (h0:0<q.num):NodeOk ⟨op,0,⟨#[]⟩,TX q,1⟩ ks [2] 2:=by
 have hs:sN (TX q)=1:=by rw[zV];unfold cR;rw[if_neg (by omega),if_pos h0]
 rcases ho with rfl | rfl
 iterate 2
  · refine ⟨?_,rfl,rfl,fun e=>by cases e⟩;show ((⟨#[]⟩:ByteArray).toList.isEmpty && (iN (TX q) && decide (0<sN (TX q))))=true;rw[iR hq,hs,wV];rfl
end Go.Proofs.YtapdbeaoakcjeaaGreatDoor.Se
/- The generator: Left, Vars, variable. -/
namespace Go.Proofs.YtapdbeaoakcjeaaGreatDoor.Se
open Go.RowKit Nmx
def vs8:List (ByteArray×Int):=[(⟨#[120]⟩,2),(⟨#[121]⟩,2),(⟨#[122]⟩,3),(⟨#[119]⟩,3),(⟨#[112]⟩,1),(⟨#[98]⟩,1),(⟨#[97]⟩,4),(⟨#[99]⟩,4)]
theorem wX:∀p∈vs8,bh p.1 vs8=some p.2:=by decide+kernel
theorem wY:∀p∈vs8,bH p.1.toList=true∧srF p.2=true:=by decide+kernel
theorem wZ (s:Int) (h1:1≤s) (h2:s≤4):vs8.filter (fun p=>p.2==s)≠[]:=by
 have:s=1∨s=2∨s=3∨s=4:=by omega
 rcases this with rfl | rfl | rfl | rfl <;> decide+kernel
def GP (C:Nat) (ao:Option Addr) (n cap:Nat) (w:World) (D Z:Nat) (s:Int) (e:Ending) (w':World):Prop:=
 ∃g c ts,e=.returned (.slice (some ⟨g,0,none⟩) ts.length (ts.length+c))∧NodesAt w' g ts∧g<w'.heap.size∧w.heap.size≤g∧Tm vs8 D Z ts s∧Ch C ao n cap w'∧w.grownBy w' (some C)
theorem GP.mono {C:Nat} {ao:Option Addr} {n cap:Nat} {w:World} {D D' Z Z':Nat} {s:Int} {e:Ending} {w':World} (h:GP C ao n cap w D Z s e w') (hd:D≤D') (hz:Z≤Z'):GP C ao n cap w D' Z' s e w':=
 let ⟨g,c,ts,h1,h2,h3,h4,h5,h6,h7⟩:=h;⟨g,c,ts,h1,h2,h3,h4,h5.mono hd hz,h6,h7⟩
theorem GP.after {C:Nat} {ao:Option Addr} {n cap:Nat} {w w1:World} {D Z:Nat} {s:Int} {e:Ending} {w':World} (h:GP C ao n cap w1 D Z s e w') (hg:w.grownBy w1 (some C)):GP C ao n cap w D Z s e w':=
 let ⟨g,c,ts,h1,h2,h3,h4,h5,h6,h7⟩:=h;⟨g,c,ts,h1,h2,h3,aC hg.size h4,h5,h6,grown_trans hg h7⟩
theorem NodesAt.grown {w w':World} {g C:Nat} {ts:List Nd} (h:NodesAt w g ts) (hg:w.grownBy w' (some C)) (hl:g<w.heap.size) (hC:g≠C):NodesAt w' g ts:=
 fun i x hx j hj=>(World.cell?_of_block (hg.block g hl (fun e=>hC (aG e)))).trans (h i x hx j hj)
theorem VarsAt.grown {w w':World} {g C:Nat} {l:List (ByteArray×Int)} (h:VarsAt w g l) (hg:w.grownBy w' (some C)) (hl:g<w.heap.size) (hC:g≠C):VarsAt w' g l:=
 fun j p hp=>⟨(World.cell?_of_block (hg.block g hl (fun e=>hC (aG e)))).trans (h j p hp).1,(World.cell?_of_block (hg.block g hl (fun e=>hC (aG e)))).trans (h j p hp).2⟩
theorem VarsAt.below {w w':World} {B g:Nat} {l:List (ByteArray×Int)} (h:VarsAt w g l) (hb:Below B w w') (hl:g<B):VarsAt w' g l:=
 fun j p hp=>⟨(hb.cell (p:=⟨g,j*2,none⟩) hl).trans (h j p hp).1,(hb.cell (p:=⟨g,j*2+1,none⟩) hl).trans (h j p hp).2⟩
section
theorem qI (C:Nat) (ao:Option Addr) (n cap:Nat) (w:World) (h:Ch C ao n cap w):
    Calls Tryz.prog 59 #[.pointer (some ⟨C,0,none⟩)] w fun e w'=>∃(b:Bool) (k:Nat),e=.returned (.bool b)∧w'=w.drewN k:=by
 obtain ⟨i,hi,hb⟩:=h.blk;have c0:w.cell? ⟨C,0,none⟩=some (.slice ao n cap):=by simp[World.cell?,hb]
 have c1:w.cell? ⟨C,1,none⟩=some (.int .i64 i):=by simp[World.cell?,hb]
 clear h hb
 go_enter Tryz.func59,Tryz.ntmps59
 go_wp2
 go_quiet (fail)
 rename_i nq
 go_wp2
 go_ret
 exact ⟨_,nq,rfl,rfl⟩
theorem xa (w:World):Calls Tryz.prog 28 #[] w fun e w'=>e=.returned (.slice (some ⟨w.heap.size,0,none⟩) 8 8)∧VarsAt w' w.heap.size vs8∧w.heap.size<w'.heap.size∧Below w.heap.size w w':=by
 have HP:Hid (VarsAt (w.alloc (.cells (vrs vs8).toArray 46)) w.heap.size vs8∧w.heap.size<(w.alloc (.cells (vrs vs8).toArray 46)).heap.size∧Below w.heap.size w (w.alloc (.cells (vrs vs8).toArray 46))):=hid ⟨fun j p hp=>by
  have:=lD vs8 j p hp;rw[World.cell?_alloc_at _ _ _ _ rfl,World.cell?_alloc_at _ _ _ _ rfl,List.getElem?_toArray,List.getElem?_toArray]
  exact this,by simp,aD w _⟩
 go_enter Tryz.func28,Tryz.ntmps28
 go_wp2
 go_ret
 exact ⟨rfl,HP.out⟩
theorem cP (C:Nat) (ao:Option Addr) (n cap:Nat) (sort:Int) (gv cv:Nat) (w:World) (h:Ch C ao n cap w) (h1:1≤sort) (h4:sort≤4) (hv:VarsAt w gv vs8) (hg:gv<w.heap.size):
    Calls Tryz.prog 62 #[.pointer (some ⟨C,0,none⟩),.int .i64 sort,.slice (some ⟨gv,0,none⟩) 8 cv] w (GP C ao n cap w 1 1 sort):=by
 obtain ⟨i0,hi,hz0,hz1,hz2⟩:=info_parts te;have HC:=hid h;have hlC:=h.lt;have HV:=hid hv;have hne:=wZ sort h1 h4;clear h hv h1 h4;generalize hB:w.heap.size=B at *;have HBe:=hid hB
 go_enter Tryz.func62,Tryz.ntmps62
 go_wp2
 go_loopw [7,8] (fun v i wr=>∃k:Nat,k≤8∧i=.int .i64 k∧wr.ownsRow B 46 2 v ((vs8.take k).filter (fun p=>p.2==sort)).length (vrs ((vs8.take k).filter (fun p=>p.2==sort)))∧Below B w wr) (fun _ i _=>8-(intOf i).toNat)
 case atStart=>exact ⟨0,aE _,rfl,World.ownsRow_nil _ _ _ _,ah _ _⟩
 case round=>
  obtain ⟨k,hk,rfl,hrow,hbel⟩:=hrel;have HB:=hid hbel;have hbs:B≤wr.heap.size:=aC (by omega) hbel.size
  by_cases hlt:k<8
  · have hltI:(k:Int)<8:=by omega
    have hkl:k<vs8.length:=hlt;obtain ⟨d1,d2⟩:=(HV.out.below hbel hg) k vs8[k] (aq hkl);have htk:vs8.take (k+1)=vs8.take k++[vs8[k]]:=List.take_succ_eq_append_getElem hkl;have hfl:((vs8.take k).filter (fun p=>p.2==sort)).length≤8:=aC (List.length_filter_le _ _) (by rw[List.length_take];omega);generalize vs8[k]=pk at *;obtain ⟨nk,sk⟩:=pk;simp only at d1 d2
    by_cases hs:sk=sort
    · subst hs;have hF:(vs8.take (k+1)).filter (fun p=>p.2==sk)=(vs8.take k).filter (fun p=>p.2==sk)++[(nk,sk)]:=by rw[htk,List.filter_append];simp
      have HF:=hid hF;have HR:=hid hrow;clear hF htk hrow hbel;generalize (vs8.take k).filter (fun p=>p.2==sk)=U at *;obtain ⟨ul,hul⟩:∃ul,U.length=ul:=⟨_,rfl⟩
      rw[hul] at hfl HR;have HUL:=hid hul;clear hul
      go_wp2_with (at_builtin;refine wpList_append_own _ rfl (.tmp 25) (.tmp 30) 47 rfl B 46 i0 _ 2 24 Tryz.underlying47 hi hz0 hz1 hz2 rfl (by decide) _ ul _ rfl (HR.out.alloc _) ⟨wr.heap.size,0,none⟩ 1 1 [.string nk,.int .i64 sk] rfl rfl (World.news_of_block (cs:=#[.string nk,.int .i64 sk]) (t:=46) (fr:=(0,0)) (heap_alloc_new wr _)) (by simp[Value.oneCell']) (by unfold maxLen;omega) (by omega) (by simp;omega) ?_)
      intro v' w3 hown' hgrow _;have HB3:=hid (((HB.out.alloc hbs _).grown hgrow (by simp;omega) (fun q hq=>(HR.out.lt q hq).1)));have HR3:Hid (w3.ownsRow B 46 2 v' ((vs8.take (k+1)).filter (fun p=>p.2==sk)).length (vrs ((vs8.take (k+1)).filter (fun p=>p.2==sk)))):=hid (by rw[HF.out,aA,HUL.out,tf];exact hown');clear hown' hgrow
      go_wp2
      go_roundw
      case rel=>exact ⟨k+1,by omega,by go_num,HR3.out,HB3.out⟩
      case measure=>simp[intOf];omega
    · have hF:(vs8.take (k+1)).filter (fun p=>p.2==sort)=(vs8.take k).filter (fun p=>p.2==sort):=by rw[htk,List.filter_append];simp[hs]
      have HR:Hid (wr.ownsRow B 46 2 u7 ((vs8.take (k+1)).filter (fun p=>p.2==sort)).length (vrs ((vs8.take (k+1)).filter (fun p=>p.2==sort)))):=hid (by rw[hF];exact hrow);have hsf:(sk==sort)=false:=by simp[hs]
      clear hF htk hrow hbel
      go_wp2
      go_roundw
      case rel=>exact ⟨k+1,by omega,by go_num,HR.out,HB.out⟩
      case measure=>simp[intOf];omega
  · obtain rfl:k=8:=by omega
    rw[show vs8.take 8=vs8 from rfl] at hrow
    have hmem:∀p∈vs8.filter (fun p=>p.2==sort),p∈vs8∧p.2=sort:=fun p hp=>by
     rw[List.mem_filter] at hp;exact ⟨hp.1,by simpa using hp.2⟩
    have hfl:(vs8.filter (fun p=>p.2==sort)).length≤8:=List.length_filter_le _ _;have HM:=hid hmem;have hpos:0<(vs8.filter (fun p=>p.2==sort)).length:=List.length_pos_iff.2 hne;clear hmem hne;generalize vs8.filter (fun p=>p.2==sort)=U at *;obtain ⟨gu,cu,rfl,hBu,-,-⟩:=aS hrow hpos;have HR:=hid hrow;obtain ⟨ul,hul⟩:∃ul,U.length=ul:=⟨_,rfl⟩
    rw[hul] at hfl hpos ⊢;have HUL:=hid hul;have hu0:¬((ul:Int)=0):=by omega
    have hnx:=bc C ao n cap wr ul hpos (by omega) (HC.out.grown (cL (hbel.mono (by omega))) (by simp));have HG:Hid (w.grownBy wr (some C)):=hid (dZ (cL (by rw[HBe.out];exact hbel)));clear hrow hbel hul
    go_wp2_with fail
    refine hnx.mono ?_;rintro e w2 ⟨r,hr,rfl,hch,hg2,-⟩;have hrU:r<U.length:=by rw[HUL.out];exact hr
    have hrow2:=HR.out.kept hg2 (.inr (fun e=>by have e':gu=C:=aG e;omega));obtain ⟨hn1,hn2⟩:=lD U r U[r] (aq hrU);obtain ⟨hm1,hm2⟩:=HM.out U[r] (List.getElem_mem hrU);rw[HUL.out] at hrow2;have e1:w2.cell? ⟨gu,r*2,none⟩=_:=(hrow2.cellAt (r*2) (by omega)).trans hn1;have e2:w2.cell? ⟨gu,r*2+1,none⟩=_:=(hrow2.cellAt (r*2+1) (by omega)).trans hn2;have hlk:=wX U[r] hm1;have hnk:=wY U[r] hm1;generalize U[r]=pr at *;obtain ⟨nr,sr⟩:=pr;simp only at hm2 e1 e2 hlk hnk;subst hm2;have HT:Hid (Tm vs8 1 1 [tj nr sr] sr):=hid (Tm.one (zl nr sr hnk.2 hnk.1) (by show ¬(4:Int)=5;decide) (fun _=>hlk) (by show (0:Nat)≤60;omega));have hrI:(r:Int)<(ul:Int):=by omega
    have HG2:=hid (grown_trans HG.out hg2);have HC2:=hid hch;have hr0:(0:Int)≤(r:Int):=by omega
    have hguw:gu<w2.heap.size:=(hrow2.lt gu rfl).2;have hBw2:B≤w2.heap.size:=by have:=hg2.size;omega
    have hA:=aD w2 (.cells #[.string nr,.int .i64 sr] 46);have HOP:=hid (OnePost.of (tj nr sr) (w2.alloc (.cells #[.string nr,.int .i64 sr] 46)));have HA:=hid hA;clear hn1 hn2 hm1 hlk hnk hrow2 hch hg2 hnx hA HR HM
    go_wp2
    go_ret
    obtain ⟨gg,hr1,hN,hl1,hl2,hb2⟩:=HOP.out;refine ⟨gg,0,[tj nr sr],?_,hN,hl1,?_,HT.out,(HC2.out.call HA.out).call hb2,aZ (aZ HG2.out HA.out) hb2⟩
    · rw[show (w2.alloc (.cells #[.string nr,.int .i64 sr] 46)).heap.size=w2.heap.size+1 by simp] at hr1;exact hr1
    · have:=HA.out.size;rw[HBe.out];omega
end
end Go.Proofs.YtapdbeaoakcjeaaGreatDoor.Se

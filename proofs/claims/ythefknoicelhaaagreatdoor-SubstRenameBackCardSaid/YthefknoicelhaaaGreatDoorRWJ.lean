import Derived.Test.YthefknoicelhaaaGreatDoorRLS
import Derived.Test.YthefknoicelhaaaGreatDoorFWV
set_option maxRecDepth 100000
set_option maxHeartbeats 40000000
open Go.Lib (hid)
namespace Go.Proofs.YthefknoicelhaaaGreatDoor.Se
open Go.RowKit Nmx Go.Proofs.Tryz
def Sft (w:World) (g n:Nat):Prop:=∃cs ty,w.heap[g]? =some (.cells cs ty (0,0))∧n*5≤cs.size
theorem Sft.lt {w:World} {g n:Nat} (h:Sft w g n):g<w.heap.size:=let ⟨_,_,h1,_⟩:=h;lt_of_heap h1
theorem Sft.keep {w w':World} {g n:Nat} (h:Sft w g n) (hb:w'.heap[g]? =w.heap[g]?):Sft w' g n:=let ⟨cs,ty,h1,h2⟩:=h;⟨cs,ty,hb.trans h1,h2⟩
theorem Sft.far {w w':World} {g n:Nat} (h:Sft w g n) (hb:Below w.heap.size w w'):Sft w' g n:=h.keep (hb.block _ h.lt)
theorem Sft.row {w:World} {b g n c:Nat} {e:TypeId} {xs:List Value} (h:w.ownsRow b e 5 (.slice (some ⟨g,0,none⟩) n c) n xs):Sft w g n:=by
 obtain ⟨_,h1 | h1⟩:=h
 · cases h1.1
 · obtain ⟨g',cap,cur,hv,_,h2,h3,_,h4,_⟩:=h1;injection hv with e1 _ _;have e2:g=g':=congrArg Addr.block (Option.some.inj e1);subst e2;exact ⟨cur,e,h2,by rw[h4];omega⟩
def dpL (L:List (List Nd×Int×Int)):Int:=L.foldl (fun d t=>max d t.2.1) 0
def xy:List (ByteArray×Int):=[(⟨#[120]⟩,2),(⟨#[121]⟩,2)]
theorem ai (sort:Int) (num:ByteArray) (w:World):Calls prog 64 #[.int .i64 sort,.string num] w (OnePost ⟨3,sort,⟨#[]⟩,num,0⟩ w):=by
 have HO:=hid (OnePost.of ⟨3,sort,⟨#[]⟩,num,0⟩ w)
 go_enter func64,ntmps64
 go_wp2
 go_ret
 exact HO.out
theorem aC (b:Bool) (w:World):Calls prog 63 #[.bool b] w (OnePost ⟨if b then 1 else 2,0,⟨#[]⟩,⟨#[]⟩,0⟩ w):=by
 cases b
 · have HO:=hid (OnePost.of ⟨2,0,⟨#[]⟩,⟨#[]⟩,0⟩ w)
   go_enter func63,ntmps63
   go_wp2
   go_ret
   exact HO.out
 · have HO:=hid (OnePost.of ⟨1,0,⟨#[]⟩,⟨#[]⟩,0⟩ w)
   go_enter func63,ntmps63
   go_wp2
   go_ret
   exact HO.out
theorem cn:(⟨#[]⟩:ByteArray).toList.isEmpty=true:=by decide+kernel
theorem ac (op:Int) (ks:List Nd) (ss:List Int) (s:Int) (h1:1≤op) (h2:op≤20) (h3:¬op=3) (h4:¬op=4) (h5:¬op=5) (h6:¬op=16) (h7:¬op=17) (ha:(arF op).1≤ss.length) (hb:(ss.length:Int)≤(arF op).2) (hr:rsF op 0 ss=(s,true)) (hm:op=15→(ks.getD 0 ndZ).op=3):NodeOk (ndE op ss.length) ks ss s:=by
 refine ⟨?_,rfl,hr,hm⟩;unfold fpF ndE fdF;simp only[h1,h2,ha,hb,decide_true,Bool.true_and];rw[if_neg h3,if_neg (by omega),if_neg (by omega),cn];rfl
theorem co (q:Rat):vN (TX q)=true:=by unfold vN;rw[bc];rfl
theorem az {q:Rat} (h:q.den=1):iN (TX q)=true:=by unfold iN;rw[bc];simp[h]
theorem dK (q:Rat):sN (TX q)=sgnI q.num:=by unfold sN;rw[bc];rfl
def ap (sort:Int) (q:Rat):Nd:=⟨3,sort,⟨#[]⟩,TX q,0⟩
theorem du (sort:Int) (q:Rat) (h:sort=3∨sort=2∧q.den=1):NodeOk (ap sort q) [] [] sort:=by
 refine ⟨?_,rfl,rfl,fun e=>by cases e⟩;rcases h with rfl | ⟨rfl,hq⟩
 · show ((⟨#[]⟩:ByteArray).toList.isEmpty && (vN (TX q) && true))=true;rw[co,cn];rfl
 · show ((⟨#[]⟩:ByteArray).toList.isEmpty && (vN (TX q) && iN (TX q)))=true;rw[co,az hq,cn];rfl
def bV (name:ByteArray) (sort:Int):Nd:=⟨4,sort,name,⟨#[]⟩,0⟩
theorem dw (name:ByteArray) (sort:Int) (h:srF sort=true) (hn:nameF name.toList=true):NodeOk (bV name sort) [] [] sort:=by
 refine ⟨?_,rfl,rfl,fun e=>by cases e⟩;show (srF sort && (nameF name.toList && (⟨#[]⟩:ByteArray).toList.isEmpty))=true;rw[h,hn,cn];rfl
theorem dx (op:Int) (q:Rat) (ks:List Nd) (ho:op=16∨op=17) (hq:q.den=1) (h0:0<q.num):NodeOk ⟨op,0,⟨#[]⟩,TX q,1⟩ ks [2] 2:=by
 have hs:sN (TX q)=1:=by rw[dK];unfold sgnI;rw[if_neg (by omega),if_pos h0]
 rcases ho with rfl | rfl
 iterate 2
  · refine ⟨?_,rfl,rfl,fun e=>by cases e⟩;show ((⟨#[]⟩:ByteArray).toList.isEmpty && (iN (TX q) && decide (0<sN (TX q))))=true;rw[az hq,hs,cn];rfl
theorem cp:∀p∈vs8,lookA p.1 vs8=some p.2:=by decide+kernel
theorem cq:∀p∈vs8,nameF p.1.toList=true∧srF p.2=true:=by decide+kernel
theorem cr (s:Int) (h1:1≤s) (h2:s≤4):vs8.filter (fun p=>p.2==s)≠[]:=by
 have:s=1∨s=2∨s=3∨s=4:=by omega
 rcases this with rfl | rfl | rfl | rfl <;> decide+kernel
def GP (C:Nat) (ao:Option Addr) (n cap:Nat) (w:World) (D Z:Nat) (s:Int) (e:Ending) (w':World):Prop:=
 ∃g c ts,e=.returned (.slice (some ⟨g,0,none⟩) ts.length (ts.length+c))∧NodesAt w' g ts∧g<w'.heap.size∧w.heap.size≤g∧Tm vs8 D Z ts s∧Ch C ao n cap w'∧w.grownBy w' (some C)
theorem GP.mono {C:Nat} {ao:Option Addr} {n cap:Nat} {w:World} {D D' Z Z':Nat} {s:Int} {e:Ending} {w':World} (h:GP C ao n cap w D Z s e w') (hd:D≤D') (hz:Z≤Z'):GP C ao n cap w D' Z' s e w':=
 let ⟨g,c,ts,h1,h2,h3,h4,h5,h6,h7⟩:=h;⟨g,c,ts,h1,h2,h3,h4,h5.mono hd hz,h6,h7⟩
theorem GP.after {C:Nat} {ao:Option Addr} {n cap:Nat} {w w1:World} {D Z:Nat} {s:Int} {e:Ending} {w':World} (h:GP C ao n cap w1 D Z s e w') (hg:w.grownBy w1 (some C)):GP C ao n cap w D Z s e w':=
 let ⟨g,c,ts,h1,h2,h3,h4,h5,h6,h7⟩:=h;⟨g,c,ts,h1,h2,h3,Nat.le_trans hg.size h4,h5,h6,grown_trans hg h7⟩
theorem bu (C:Nat) (ao:Option Addr) (n cap:Nat) (w:World) (h:Ch C ao n cap w):
    Calls prog 36 #[.pointer (some ⟨C,0,none⟩)] w fun e w'=>∃(b:Bool) (k:Nat),e=.returned (.bool b)∧w'=w.drewN k:=by
 obtain ⟨i,hi,hb⟩:=h.blk;have c0:w.cell? ⟨C,0,none⟩=some (.slice ao n cap):=by simp[World.cell?,hb]
 have c1:w.cell? ⟨C,1,none⟩=some (.int .i64 i):=by simp[World.cell?,hb]
 clear h hb
 go_enter func36,ntmps36
 go_wp2
 go_quiet (fail)
 rename_i nq
 go_wp2
 go_ret
 exact ⟨_,nq,rfl,rfl⟩
theorem bv (w:World):Calls prog 15 #[] w fun e w'=>e=.returned (.slice (some ⟨w.heap.size,0,none⟩) 8 8)∧VarsAt w' w.heap.size vs8∧w.heap.size<w'.heap.size∧Below w.heap.size w w':=by
 have HP:Hid (VarsAt (w.alloc (.cells (vrs vs8).toArray 40)) w.heap.size vs8∧w.heap.size<(w.alloc (.cells (vrs vs8).toArray 40)).heap.size∧Below w.heap.size w (w.alloc (.cells (vrs vs8).toArray 40))):=hid ⟨fun j p hp=>by
  have:=vrs_get vs8 j p hp;rw[World.cell?_alloc_at _ _ _ _ rfl,World.cell?_alloc_at _ _ _ _ rfl,List.getElem?_toArray,List.getElem?_toArray]
  exact this,by simp,alloc_far' w _⟩
 go_enter func15,ntmps15
 go_wp2
 go_ret
 exact ⟨rfl,HP.out⟩
theorem ag (C:Nat) (ao:Option Addr) (n cap:Nat) (sort:Int) (gv cv:Nat) (w:World) (h:Ch C ao n cap w) (h1:1≤sort) (h4:sort≤4) (hv:VarsAt w gv vs8) (hg:gv<w.heap.size):
    Calls prog 39 #[.pointer (some ⟨C,0,none⟩),.int .i64 sort,.slice (some ⟨gv,0,none⟩) 8 cv] w (GP C ao n cap w 1 1 sort):=by
 obtain ⟨i0,hi,hz0,hz1,hz2⟩:=info_parts infoVar;have HC:=hid h;have hlC:=h.lt;have HV:=hid hv;have hne:=cr sort h1 h4;clear h hv h1 h4;generalize hB:w.heap.size=B at *;have HBe:=hid hB
 go_enter func39,ntmps39
 go_wp2
 go_loopw [7,8] (fun v i wr=>∃k:Nat,k≤8∧i=.int .i64 k∧wr.ownsRow B 40 2 v ((vs8.take k).filter (fun p=>p.2==sort)).length (vrs ((vs8.take k).filter (fun p=>p.2==sort)))∧Below B w wr) (fun _ i _=>8-(intOf i).toNat)
 case atStart=>exact ⟨0,Nat.zero_le _,rfl,World.ownsRow_nil _ _ _ _,Below.refl _ _⟩
 case round=>
  obtain ⟨k,hk,rfl,hrow,hbel⟩:=hrel;have HB:=hid hbel;have hbs:B≤wr.heap.size:=Nat.le_trans (by omega) hbel.size
  by_cases hlt:k<8
  · have hltI:(k:Int)<8:=by omega
    have hkl:k<vs8.length:=hlt;obtain ⟨d1,d2⟩:=(HV.out.below hbel hg) k vs8[k] (List.getElem?_eq_getElem hkl);have htk:vs8.take (k+1)=vs8.take k++[vs8[k]]:=List.take_succ_eq_append_getElem hkl;have hfl:((vs8.take k).filter (fun p=>p.2==sort)).length≤8:=Nat.le_trans (List.length_filter_le _ _) (by rw[List.length_take];omega);generalize vs8[k]=pk at *;obtain ⟨nk,sk⟩:=pk;simp only at d1 d2
    by_cases hs:sk=sort
    · subst hs;have hF:(vs8.take (k+1)).filter (fun p=>p.2==sk)=(vs8.take k).filter (fun p=>p.2==sk)++[(nk,sk)]:=by rw[htk,List.filter_append];simp
      have HF:=hid hF;have HR:=hid hrow;clear hF htk hrow hbel;generalize (vs8.take k).filter (fun p=>p.2==sk)=U at *;obtain ⟨ul,hul⟩:∃ul,U.length=ul:=⟨_,rfl⟩
      rw[hul] at hfl HR;have HUL:=hid hul;clear hul
      go_wp2_with (at_builtin;refine wpList_append_own _ rfl (.tmp 25) (.tmp 30) 37 rfl B 40 i0 _ 2 24 underlying37 hi hz0 hz1 hz2 rfl (by decide) _ ul _ rfl (HR.out.alloc _) ⟨wr.heap.size,0,none⟩ 1 1 [.string nk,.int .i64 sk] rfl rfl (World.news_of_block (cs:=#[.string nk,.int .i64 sk]) (t:=40) (fr:=(0,0)) (heap_alloc_new wr _)) (by simp[Value.oneCell']) (by unfold maxLen;omega) (by omega) (by simp;omega) ?_)
      intro v' w3 hown' hgrow _;have HB3:=hid (((HB.out.alloc hbs _).grown hgrow (by simp;omega) (fun q hq=>(HR.out.lt q hq).1)));have HR3:Hid (w3.ownsRow B 40 2 v' ((vs8.take (k+1)).filter (fun p=>p.2==sk)).length (vrs ((vs8.take (k+1)).filter (fun p=>p.2==sk)))):=hid (by rw[HF.out,List.length_append,HUL.out,vrs_app];exact hown');clear hown' hgrow
      go_wp2
      go_roundw
      case rel=>exact ⟨k+1,by omega,by go_num,HR3.out,HB3.out⟩
      case measure=>simp[intOf];omega
    · have hF:(vs8.take (k+1)).filter (fun p=>p.2==sort)=(vs8.take k).filter (fun p=>p.2==sort):=by rw[htk,List.filter_append];simp[hs]
      have HR:Hid (wr.ownsRow B 40 2 u7 ((vs8.take (k+1)).filter (fun p=>p.2==sort)).length (vrs ((vs8.take (k+1)).filter (fun p=>p.2==sort)))):=hid (by rw[hF];exact hrow);have hsf:(sk==sort)=false:=by simp[hs]
      clear hF htk hrow hbel
      go_wp2
      go_roundw
      case rel=>exact ⟨k+1,by omega,by go_num,HR.out,HB.out⟩
      case measure=>simp[intOf];omega
  · obtain rfl:k=8:=by omega
    rw[show vs8.take 8=vs8 from rfl] at hrow
    have hmem:∀p∈vs8.filter (fun p=>p.2==sort),p∈vs8∧p.2=sort:=fun p hp=>by
     rw[List.mem_filter] at hp;exact ⟨hp.1,by simpa using hp.2⟩
    have hfl:(vs8.filter (fun p=>p.2==sort)).length≤8:=List.length_filter_le _ _;have HM:=hid hmem;have hpos:0<(vs8.filter (fun p=>p.2==sort)).length:=List.length_pos_iff.2 hne;clear hmem hne;generalize vs8.filter (fun p=>p.2==sort)=U at *;obtain ⟨gu,cu,rfl,hBu,-,-⟩:=ownsRow_shape hrow hpos;have HR:=hid hrow;obtain ⟨ul,hul⟩:∃ul,U.length=ul:=⟨_,rfl⟩
    rw[hul] at hfl hpos ⊢;have HUL:=hid hul;have hu0:¬((ul:Int)=0):=by omega
    have hnx:=aa C ao n cap wr ul hpos (by omega) (HC.out.grown (grown_below (hbel.mono (by omega))) (by simp));have HG:Hid (w.grownBy wr (some C)):=hid (grown_more (grown_below (by rw[HBe.out];exact hbel)));clear hrow hbel hul
    go_wp2_with fail
    refine hnx.mono ?_;rintro e w2 ⟨r,hr,rfl,hch,hg2,-⟩;have hrU:r<U.length:=by rw[HUL.out];exact hr
    have hrow2:=HR.out.kept hg2 (.inr (fun e=>by have e':gu=C:=Option.some.inj e;omega));obtain ⟨hn1,hn2⟩:=vrs_get U r U[r] (List.getElem?_eq_getElem hrU);obtain ⟨hm1,hm2⟩:=HM.out U[r] (List.getElem_mem hrU);rw[HUL.out] at hrow2;have e1:w2.cell? ⟨gu,r*2,none⟩=_:=(hrow2.cellAt (r*2) (by omega)).trans hn1;have e2:w2.cell? ⟨gu,r*2+1,none⟩=_:=(hrow2.cellAt (r*2+1) (by omega)).trans hn2;have hlk:=cp U[r] hm1;have hnk:=cq U[r] hm1;generalize U[r]=pr at *;obtain ⟨nr,sr⟩:=pr;simp only at hm2 e1 e2 hlk hnk;subst hm2;have HT:Hid (Tm vs8 1 1 [bV nr sr] sr):=hid (Tm.one (dw nr sr hnk.2 hnk.1) (by show ¬(4:Int)=5;decide) (fun _=>hlk) (by show (0:Nat)≤60;omega));have hrI:(r:Int)<(ul:Int):=by omega
    have HG2:=hid (grown_trans HG.out hg2);have HC2:=hid hch;have hr0:(0:Int)≤(r:Int):=by omega
    have hguw:gu<w2.heap.size:=(hrow2.lt gu rfl).2;have hBw2:B≤w2.heap.size:=by have:=hg2.size;omega
    have hA:=alloc_far' w2 (.cells #[.string nr,.int .i64 sr] 40);have HOP:=hid (OnePost.of (bV nr sr) (w2.alloc (.cells #[.string nr,.int .i64 sr] 40)));have HA:=hid hA;clear hn1 hn2 hm1 hlk hnk hrow2 hch hg2 hnx hA HR HM
    go_wp2
    go_ret
    obtain ⟨gg,hr1,hN,hl1,hl2,hb2⟩:=HOP.out;refine ⟨gg,0,[bV nr sr],?_,hN,hl1,?_,HT.out,(HC2.out.call HA.out).call hb2,ad (ad HG2.out HA.out) hb2⟩
    · rw[show (w2.alloc (.cells #[.string nr,.int .i64 sr] 40)).heap.size=w2.heap.size+1 by simp] at hr1;exact hr1
    · have:=HA.out.size;rw[HBe.out];omega
end Go.Proofs.YthefknoicelhaaaGreatDoor.Se

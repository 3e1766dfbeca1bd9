/- TermRebuild's walk. -/
import Derived.Test.YtapdbeaoakcjeaaGreatDoorDYL
import Derived.Test.YtapdbeaoakcjeaaGreatDoorDWV
import Derived.Test.YtapdbeaoakcjeaaGreatDoorDVM
import Derived.Test.YtapdbeaoakcjeaaGreatDoorDVO
import Derived.Deep.Slices
set_option maxRecDepth 100000
set_option maxHeartbeats 40000000
open Go.Lib (hid)
namespace Go.Proofs.YtapdbeaoakcjeaaGreatDoor.Se
open Go.RowKit Nmx
theorem nE:∀l:List UInt8,Op.bytesLess l l=false
 | []=>rfl
 | x::l=>by
   unfold Op.bytesLess;rw[nE l]
   simp
theorem xS (x:Nd):gB x x=0:=by
 unfold gB
 simp[bD,cmpI,jH,nE]
theorem sK:∀ts:List Nd,dw ts ts=0
 | []=>by simp[dw]
 | x::ts=>by
   unfold dw;rw[xS x];exact sK ts
theorem zF {k:List Nd×Int×Int} (h:KOk k):∃(E:List Nat) (S:List Int),WE 0 8 k.1 [k.2.2] E S∧((bg 0 E [] 0:Nat):Int)=k.2.1:=by
 obtain ⟨dk,e,hd,E,S,hx⟩:=h.wx;exact ⟨E,S,hx.we.mono 8 hd,by rw[hx.hgt,e]⟩
section
theorem ut {ts:List Nd} {s:Int} {x:Nd} {L:List (List Nd×Int×Int)} {E:List Nat} {S:List Int} (hr:RootAt ts s x L E S) (h:WOk ts s) (g cap:Nat) (hcap:ts.length≤cap) (w:World) (hEn:Env w) (hc:NodesAt w g ts) (hg:g<w.heap.size):
    L.length≤420∧x.kids=(L.length:Int)∧Calls Tryz.prog 12 #[.slice (some ⟨g,0,none⟩) ts.length cap] w (jJ w (L.map (·.1))):=by
 have hv:=nC h g cap w hEn hc hg;have hfp:=hr.we.fp;have hle:=h.le;have hkn:=hr.ok.kn;rw[List.length_map] at hkn;have hxm:=(hfp x (by rw[hr.eq];simp)).2;have hLn:L.length≤420:=by omega
 have e:ts.length=1+(L.map (·.1)).flatten.length:=by rw[hr.eq,aq,Nat.add_comm]
 refine ⟨hLn,hkn,?_⟩;rw[e] at hv hcap ⊢;have hA:1+(L.map (·.1)).flatten.length≤20000:=by omega
 have hB:(L.map (·.1)).length≤20000:=by rw[List.length_map];omega
 have hC:x.kids=((L.map (·.1)).length:Int):=by rw[List.length_map];exact hkn
 have hD:NodesAt w g (x::(L.map (·.1)).flatten):=by rw[←hr.eq];exact hc
 have hE:∀l∈L.map (·.1),sI l:=fun l hl=>by
  obtain ⟨k,hk,rfl⟩:=List.mem_map.1 hl;obtain ⟨_,_,_,_,_,hx⟩:=(hr.ks k hk).wx;exact hx.kidOk
 have hF:∀y∈x::(L.map (·.1)).flatten,y.kids≤1000000:=fun y hy=>by
  have:=(hfp y (by rw[hr.eq];exact hy)).2
  omega
 clear hfp hxm;generalize L.map (·.1)=ls at *;exact oO g cap x ls w hA hB hC hD hg hcap hE hF hv
theorem qt (al:Option Addr) (ll cl:Nat) (w:World) (hEn:Env w) (hl:ArgI w al ll cl):
    Calls Tryz.prog 4 #[.slice al ll cl] w fun e w'=>e=.returned (.bool true)∧Below w.heap.size w w':=by
 have hw1:=ww al ll cl w hl;have HEn:=hid hEn;clear hEn hl
 go_enter Tryz.func4,Tryz.ntmps4
 go_wp2_with fail
 refine hw1.mono ?_;rintro e w1 ⟨g,d,ts,rfl,k1,k2,kt,kb⟩;obtain ⟨s,hok⟩:=kt.ok;obtain ⟨x,L,E,S,hr⟩:=hok.root;obtain ⟨hLn,hxk,hkids⟩:=ut hr hok g (ts.length+d) (by omega) w1 (HEn.out.far kb) k1 k2;have hNd1:=k1.o k2;have HB1:=hid kb;have HC1:=hid k1;have HOK:=hid hok;have HR:=hid hr;obtain ⟨n,hn⟩:∃n,L.length=n:=⟨_,rfl⟩
 have HNL:=hid hn;rw[hn] at hLn hxk;have HXK:=hid hxk;obtain ⟨c,hc⟩:∃c,ts.length+d=c:=⟨_,rfl⟩
 obtain ⟨N,hN⟩:∃N,ts.length=N:=⟨_,rfl⟩
 have HN:=hid hN
 have hN0:0<N:=by
  rw[←hN];exact List.length_pos_iff.2 hok.ne
 rw[hc,hN] at hkids;rw[hc,hN];clear hw1 kt kb k1 hn hxk hc hN hok hr hNd1
 go_wp2_with fail
 refine hkids.mono ?_;rintro e w2 ⟨ak,gk,ck,rfl,hkn,hb2⟩;rw[List.length_map,HNL.out];have HB2:=hid (HB1.out.trans (hb2.mono HB1.out.size));have HC2:=hid (HC1.out.below hb2 k2);have hg2:=am k2 hb2.size;have HKN:=hid hkn;clear hkn hb2 hkids HC1 HB1 k2
 go_wp2
 go_loopw [5,6] (fun m i wr=>∃j:Nat,j≤n∧i=.int .i64 j∧m=.int .i64 (dpL (L.take j))∧Below w2.heap.size w2 wr) (fun _ i _=>n-(intOf i).toNat)
 case atStart=>exact ⟨0,aF _,rfl,rfl,ag _ _⟩
 case round=>
  obtain ⟨j,hj,rfl,rfl,hbel⟩:=hrel;have HBw:=hid hbel;have HEw:Hid (Env wr):=hid (HEn.out.far (HB2.out.trans (hbel.mono HB2.out.size)));clear hbel
  by_cases hlt:j<n
  · have hjL:j<L.length:=by rw[HNL.out];exact hlt
    obtain rfl:=HKN.out.1 (by rw[List.length_map,HNL.out];omega);have hko:=HR.out.ks _ (List.getElem_mem hjL);obtain ⟨gj,cj,hcj,hNj,hlj,-⟩:=(HKN.out.far HBw.out).2.2 j L[j].1 (by rw[List.getElem?_map,ap hjL];rfl);have hgkw:gk<wr.heap.size:=(HKN.out.far HBw.out).2.1;have hva:=nC hko.ok gj cj wr HEw.out hNj hlj;obtain ⟨E',S',hw',hgt⟩:=zF hko;have HDP:=hid fun (W:World) (hW:Below wr.heap.size wr W)=>nD hko.ok hw' gj cj W (HEw.out.far hW) (hNj.below hW hlj) (am hlj hW.size)
    have HTK:Hid (dpL (L.take (j+1))=max (dpL (L.take j)) ((bg 0 E' [] 0:Nat):Int)):=hid (by rw[pX hjL,hgt]);generalize bg 0 E' [] 0=ht at *;generalize L[j].1.length=m at *;generalize dpL (L.take j)=mo at *;clear hko hNj hw' hgt
    go_wp2_with fail
    refine hva.mono ?_;rintro e w4 ⟨rfl,hb4⟩;have hdp:=HDP.out w4 hb4;have hcj4:=(hb4.cell (p:=⟨gk,j,none⟩) hgkw).trans hcj;have HB4:=hid (HBw.out.trans (hb4.mono HBw.out.size));clear hb4 hva HDP hcj HBw
    go_wp2_with fail
    refine hdp.mono ?_;rintro e w5 ⟨rfl,hb5⟩;have HB5:=hid (HB4.out.trans (hb5.mono HB4.out.size));clear hb5 hdp HB4 hcj4
    go_wp2
    go_roundw
    case rel=>exact ⟨j+1,by omega,by go_num,by rw[HTK.out],HB5.out⟩
    case measure=>simp[intOf];omega
  · obtain rfl:j=n:=by omega
    have hall:L.take j=L:=aI (by rw[HNL.out];exact af _);rw[hall];have hCw:=HC2.out.below HBw.out hg2;have hgw:=am hg2 HBw.out.size;have hx0:ts[0]? =some x:=by rw[HR.out.eq];rfl
    have c0:=hCw 0 x hx0 0 (by omega);have c1:=hCw 0 x hx0 1 (by omega);have c2:=hCw 0 x hx0 2 (by omega);have c3:=hCw 0 x hx0 3 (by omega);have c4:=hCw 0 x hx0 4 (by omega);simp only[Nd.cells,List.getElem?_cons_succ,List.getElem?_cons_zero,Nat.zero_mul,Nat.zero_add] at c0 c1 c2 c3 c4;have HCW:=hid hCw;clear hlt hall hCw hx0
    go_wp2_with fail
    have hal:=aD wr (.cells #[.int .i64 x.op,.int .i64 x.sort,.string x.name,.string x.num,.int .i64 99] 34);have hew:=HEw.out.far hal;have hnew:=xR HR.out HOK.out 99 ak gk ck _ hew ((HKN.out.far HBw.out).kds.far hal);rw[HNL.out] at hnew;have HB3:=hid (HBw.out.trans (hal.mono HBw.out.size));have hC3:=HCW.out.below hal hgw;have hg3:=am hgw hal.size;have HE3:=hid hew;clear hal hew c0 c1 c2 c3 c4 HCW hgw HEw HBw HKN HC2 hg2;generalize wr.alloc (.cells #[.int .i64 x.op,.int .i64 x.sort,.string x.name,.string x.num,.int .i64 99] 34)=w3 at *;refine hnew.mono ?_;rintro e w4 ⟨g4,c4,rfl,hN4,hg4,-,hb4⟩;rw[HN.out];have HB4:=hid (HB3.out.trans (hb4.mono HB3.out.size));have hC4:=hC3.below hb4 hg3;have hg34:=am hg3 hb4.size;have hE4:=HE3.out.far hb4;have heq:=oM (some ⟨g,0,none⟩) (some ⟨g4,0,none⟩) c c4 ts ts w4 (hC4.o hg34) (hN4.o hg4) (by rw[HN.out];have:=HOK.out.le;have:=HN.out;omega) (by rw[HN.out];have:=HOK.out.le;have:=HN.out;omega);rw[sK ts,HN.out] at heq;have HC4:=hid hC4;have HE4:=hid hE4;clear hnew hb4 hN4 hg4 hC3 hg3 hC4 hE4 HE3 HB3
    go_wp2_with fail
    refine heq.mono ?_;rintro e w5 ⟨rfl,hb5⟩;have hC5:=HC4.out.below hb5 hg34;have hg5:=am hg34 hb5.size;have hdp:=nD HOK.out HR.out.we g c w5 (HE4.out.far hb5) hC5 hg5;have hhg:((bg 0 E [] 0:Nat):Int)=dpL L+1:=by have h1:=HR.out.hg;have h2:=HR.out.dp;omega
    rw[hhg,HN.out] at hdp;have c5:=hC5 0 x (by rw[HR.out.eq];rfl) 4 (by omega);simp only[Nd.cells,List.getElem?_cons_succ,List.getElem?_cons_zero,Nat.zero_mul,Nat.zero_add] at c5;rw[HXK.out] at c5;have HB5:=hid (HB4.out.trans (hb5.mono HB4.out.size));have HE5:=hid (HE4.out.far hb5);obtain ⟨p1,p2⟩:=HR.out.dp;generalize dpL L=dp at *;clear hb5 heq HC4 HE4 HB4 hC5 hhg
    go_wp2_with fail
    refine hdp.mono ?_;rintro e w6 ⟨rfl,hb6⟩;have haw:=vV w6 (HE5.out.far hb6);have HB6:=hid (HB5.out.trans (hb6.mono HB5.out.size));clear hb6 hdp HB5 HE5 c5
    go_wp2_with fail
    refine haw.mono ?_;rintro e w7 ⟨rfl,hb7⟩;have HB7:=hid (HB2.out.trans ((HB6.out.trans (hb7.mono HB6.out.size)).mono HB2.out.size));clear hb7 haw HB6
    go_wp2
    go_ret
    exact ⟨rfl,HB7.out⟩
end
end Go.Proofs.YtapdbeaoakcjeaaGreatDoor.Se
/-
  PROVED HERE: for all slices of eR l, TermRebuild answers true and leaves its argument as it was: the row's statement and its tied card.
  CONDITIONS: those of the row alone (seven package variables hold what the program's text oF: math/bits.deBruijn32tab, math/bits.deBruijn64tab, internal/strconv.uint64pow10, unicode/utf8.acceptRanges, unicode/utf8.first, strconv.ErrRange, strconv.ErrSyntax; internal/bytealg.MaxLen holds any number).
-/
namespace Go.Proofs.YtapdbeaoakcjeaaGreatDoor.Se
open Go.ChangeShapes Go.WideShapes Go.ChangeAt Go.RowKit Go.ChangeMaps
theorem uu:Tryz.prog.cellsOf 3=1:=by kernel_rfl
theorem wy {H:Type} {enc:TypeId×Value→H} {W:World} {a0:Option Addr} {len cap:Nat} {d:DataW H} {ps:List MemPlace} (h:DataW.Trod enc Tryz.prog W 0 (fun _=>true) true 23 (.slice a0 len cap) d ps):ArgI W a0 len cap:=by
 obtain ⟨fuel,hf⟩:=h;rcases open_ints Tryz.underlying23 Tryz.underlying3 uu hf with ⟨hcs,_⟩ | ⟨a,len',cap',zs,hcs,_,hl,hm,hz,_,hcell,_⟩
 · simp[Value.cells] at hcs
   obtain ⟨rfl,rfl,rfl⟩:=hcs;exact ⟨af _,aF _,fun h=>absurd h (by omega)⟩
 · simp[Value.cells] at hcs
   obtain ⟨rfl,rfl,rfl⟩:=hcs;simp only[if_true] at hz;refine ⟨hl,hm,fun h0=>?_⟩;obtain ⟨b,off,spot⟩:=a;have hspot:spot=none:=by simpa [Addr.add] using World.cell?_spot (hcell 0 (by omega))
   subst hspot;have hcell':∀j,j<zs.length→W.cell? ⟨b,off+j,none⟩=some (.int .i64 (zs.getD j 0)):=fun j hj=>by rw[←add_plain];exact hcell j hj
   exact ⟨b,off,rfl,World.block_lt_of_cell? _ _ (hcell' 0 (by omega)),fun t ht=>⟨_,hcell' t (by omega)⟩⟩
namespace Rebuilds
theorem wA (H:Type) (enc:TypeId×Value→H) (W:World) (base:Nat) (args:Array Value) (ds gs:List (DataW H)) (before:List MemPlace)
    (hval:∀(j:Nat) t v,Tryz.f4.params[j]? =some t→args[j]? =some v→Value.okWide Tryz.prog W .any base t v)
    (hW:DataW.Whole enc Tryz.prog Tryz.f4.params.toList Rows.termRebuildSpec.vars false W args.toList ds gs before)
    (hL:laidMet Tryz.prog oF W) (hsh:W.ShapedOpen Tryz.prog):
    Calls Tryz.prog 4 args W fun e W'=>∃v,e=.returned v∧Rows.termRebuildSpec.post enc Tryz.prog Tryz.f4 false true false false W args v W':=by
 have hW':=hW;obtain ⟨p,q,hA0,hV,rfl,hfz,hnd⟩:=hW;have hA:DataW.TrodAll enc Tryz.prog W 0 (fun _=>true) true Tryz.f4.params.toList args.toList ds p:=hA0;rw[Tryz.params4] at hA hval;obtain ⟨v0,vs0,d0,ds0,p0,q0,hargs,rfl,rfl,h0,r0⟩:=trodAll_cons hA;obtain ⟨rfl,rfl,rfl⟩:=trodAll_nil r0;obtain rfl:args=#[v0]:=by cases args;simp_all
 obtain ⟨rfl,rfl⟩:=trodVars_none hV;obtain ⟨a0,tZ,cap0,rfl⟩:=okWide_slice Tryz.underlying23 (hval 0 23 v0 rfl rfl);have h0k:=h0;clear hA0;simp only[List.append_nil] at hW';have hlt:∀x∈p0,x.block<W.heap.size:=fun x hx=>by simpa using hW'.lt x hx
 have harg0:∀(W':World) (sp:Nat→Bool),Below W.heap.size W W'→(∀p∈p0,sp p.block=true)→DataW.Trod enc Tryz.prog W' 0 sp true 23 (.slice a0 tZ cap0) d0 p0:=
  fun W' sp hn hsp=>WideElems.Trod_stays (P:=Tryz.prog) mg (by kernel_rfl) (of_decide_eq_true (by kernel_rfl)) h0k (fun x hx=>hn.same (hlt x hx)) hsp
 refine (qt a0 tZ cap0 W (yE hsh hL) (wy h0k)).mono fun e W' ⟨he,hg⟩=>?_
 subst he
 exact ⟨_,rfl,rF (pa:=p0) (pv:=[]) hW' (fun _ _ _=>trodAll_cons_mk (shut_bool Tryz.underlying4 _) trodAll_mk0) (fun sp hsp=>by
     have t:=trodAll_cons_mk (harg0 W' sp hg (fun p hp=>hsp p hp)) trodAll_mk0;rw[show p0++[]=p0 by simp] at t
     exact t) (fun _ _=>rfl) (by simp)
  hg (ok_one (by kernel_rfl) rfl (okWide_bool_mk Tryz.underlying4 _))⟩
theorem wB (os:Os):laidMet Tryz.prog Rows.termRebuildRow.laid ((World.laidAll Tryz.prog os oF).forCall (fun _ _=>0) ⟨#[],#[.slice none 0 0],[]⟩).memory:=
 laidMet_laidAll (laid:=oF) _ (by kernel_rfl) (by kernel_rfl)
theorem gC (os:Os) {H:Type} (enc:TypeId×Value→H):∃places,DataW.whole enc Tryz.prog ((World.laidAll Tryz.prog os oF).forCall (fun _ _=>0) ⟨#[],#[.slice none 0 0],[]⟩).memory Tryz.f4.params.toList Rows.termRebuildSpec.vars false #[Value.slice none 0 0].toList 8=some ([.nil],[],places):=
 ⟨[],by kernel_rfl⟩
theorem xT (os:Os):((World.laidAll Tryz.prog os oF).forCall (fun _ _=>0) ⟨#[],#[.slice none 0 0],[]⟩).Shaped Tryz.prog:=World.shaped_of_ZipB (by kernel_rfl) (by kernel_rfl)
theorem zG (os:Os):Input.okWideB Tryz.prog ((World.laidAll Tryz.prog os oF).forCall (fun _ _=>0) ⟨#[],#[.slice none 0 0],[]⟩) 4 ⟨#[],#[.slice none 0 0],[]⟩=true:=by kernel_rfl
theorem lifted (os:Os) (started:os.Started) (H:Type) (enc:TypeId×Value→H) (F:Stop.Interp):
    ReturnsInHanded {} Tryz.checked os 4 .any ((OpenSpec.ofChange Rows.termRebuildSpec).preRow enc Tryz.prog Tryz.f4 Rows.termRebuildRow.domain false Rows.termRebuildRow.laid) (((OpenSpec.ofChange Rows.termRebuildSpec).at F).post enc Tryz.prog Tryz.f4 false true false false):=by
 obtain ⟨places,hx⟩:=gC os enc
 refine returnsInHanded_of_row (C:=Tryz.checked) (s:=OpenSpec.ofChange Rows.termRebuildSpec) own started (by kernel_rfl) Tryz.func4
  (qc (enc:=enc) (C:=Tryz.checked) (World.laidAll Tryz.prog os oF) #[.slice none 0 0] (World.laidAll_os _ _ _) (xT os) (zG os)
    (OpenSpec.preRow_of_cond 8 hx (by kernel_rfl) (fun k hk=>by cases hk) (by kernel_rfl) (wB os))) ?_
 intro W base args ds gs before hval hW _ _ _ hL hsh _;exact wA H enc W base args ds gs before hval hW hL hsh
theorem lm_plainKeys:Tryz.prog.plainKeys=Rows.termRebuildRow.plainKeys:=by kernel_rfl
theorem lm_lifted:Tryz.prog.liftsFinal=Rows.termRebuildRow.lifted:=by kernel_rfl
theorem lm_make:Tryz.prog.make=some Rows.termRebuildRow.make:=by kernel_rfl
theorem rO:(Rows.termRebuildRow.inPlace==Tryz.prog.inPlace 4)=true:=by kernel_rfl
theorem mF:(Rows.termRebuildRow.unfollowed==Tryz.prog.unfollowed 4)=true:=by kernel_rfl
theorem qu:(Rows.termRebuildRow.recurses==Tryz.prog.recurses 4)=true:=by kernel_rfl
theorem wC:(Rows.termRebuildRow.named==Tryz.prog.varsNamed 4)=true:=by kernel_rfl
theorem wD:joinedFacts Tryz.prog 4 Tryz.f4 Rows.termRebuildSpec Rows.termRebuildRow=true:=by
 unfold joinedFacts;rw[mg,xA,lm_plainKeys,vW,qd,lm_lifted,lm_make,rO,mF,qu,wC]
 kernel_rfl
theorem Ak:Rows.TermRebuildSaid:=
 OpenClaim.holds_of_cond 4 Tryz.f4 rfl rfl rfl rfl rfl rfl rfl ⟨rfl,rfl,rfl,rfl,rfl⟩ rfl rfl rfl rfl rfl (by kernel_rfl) Tryz.func4 wD
  (of_decide_eq_true (by kernel_rfl)) (by unfold Func.isWrapper;first | (rw[if_pos (by decide+kernel)];kernel_rfl) | (rw[if_neg (by decide+kernel)];exact ⟨rfl,rfl⟩))
  (fun os started H enc _ F=>by rw[OpenClaim.pre_eq_preRow];exact lifted os started H enc F)
theorem sL (f:FuncId) (fn:Func) (hf:Tryz.pinned.checked.prog.funcNamed Rows.termRebuildRow.func=some f) (hfn:Tryz.pinned.checked.prog.funcs[f]? =some fn):
    true=Tryz.pinned.checked.prog.looks []∧∀(j:Nat) t,fn.params[j]? =some t→Tryz.pinned.checked.prog.wantsStandIn t=false:=by
 obtain rfl:f=4:=aH ((show Tryz.prog.funcNamed Rows.termRebuildRow.func=some 4 by kernel_rfl).symm.trans hf) |>.symm;obtain rfl:fn=Tryz.f4:=(aH (Tryz.func4.symm.trans hfn)).symm;refine ⟨by kernel_rfl,fun j t ht=>?_⟩;rw[Tryz.params4] at ht;have hm:=Array.mem_of_getElem? ht;simp only[List.mem_toArray,List.mem_cons,List.not_mem_nil,or_false] at hm;rcases hm with rfl
 · exact (show Tryz.prog.wantsStandIn 23=false by kernel_rfl)
theorem card:Rows.TermRebuildCardSaid:=
 Claim7.holds_tied_plain_at .later [] _ _ _ _ Ak (fun _ h=>by cases h) (by kernel_rfl) (fun _ h=>by cases h) termRebuild_row_tie rfl ⟨rfl,rfl⟩ (by kernel_rfl) rfl sL (by kernel_rfl)
end Rebuilds
end Go.Proofs.YtapdbeaoakcjeaaGreatDoor.Se

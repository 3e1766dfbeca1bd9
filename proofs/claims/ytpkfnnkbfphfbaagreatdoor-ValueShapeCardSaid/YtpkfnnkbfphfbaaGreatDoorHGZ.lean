import Derived.Test.YtpkfnnkbfphfbaaGreatDoorHVO
import Derived.Test.YtpkfnnkbfphfbaaGreatDoorHGY
import Derived.Deep.Slices
import Derived.SliceStrings
set_option maxRecDepth 100000
set_option maxHeartbeats 40000000
namespace Go.Proofs.YtpkfnnkbfphfbaaGreatDoor.Se
open Go.ChangeShapes Go.WideShapes Go.ChangeAt Go.RowKit Go.ChangeMaps Go.Proofs.Tryz
theorem nR:prog.cellsOf 3=1:=by kernel_rfl
theorem wZ {H:Type} {enc:TypeId×Value→H} {W:World} {a0:Option Addr} {len cap:Nat} {d:DataW H} {ps:List MemPlace} (h:DataW.Trod enc prog W 0 (fun _=>true) true 33 (.slice a0 len cap) d ps):ArgI W a0 len cap:=by
 obtain ⟨fuel,hf⟩:=h;rcases open_ints underlying33 underlying3 nR hf with ⟨hcs,_⟩ | ⟨a,len',cap',zs,hcs,_,hl,hm,hz,_,hcell,_⟩
 · simp[Value.cells] at hcs
   obtain ⟨rfl,rfl,rfl⟩:=hcs;exact ⟨aj _,aM _,fun h=>absurd h (by omega)⟩
 · simp[Value.cells] at hcs
   obtain ⟨rfl,rfl,rfl⟩:=hcs;simp only[if_true] at hz;refine ⟨hl,hm,fun h0=>?_⟩;obtain ⟨b,off,spot⟩:=a;have hspot:spot=none:=by simpa [Addr.add] using World.cell?_spot (hcell 0 (by omega))
   subst hspot;have hcell':∀j,j<zs.length→W.cell? ⟨b,off+j,none⟩=some (.int .i64 (zs.getD j 0)):=fun j hj=>by rw[←add_plain];exact hcell j hj
   exact ⟨b,off,rfl,World.block_lt_of_cell? _ _ (hcell' 0 (by omega)),fun t ht=>⟨_,hcell' t (by omega)⟩⟩
theorem mh:prog.cellsOf 9=1:=by kernel_rfl
theorem qA:prog.cellsOf 4=1:=by kernel_rfl
theorem qB:prog.cellsOf 22=1:=by kernel_rfl
theorem sF:prog.cellsOf 24=5:=by kernel_rfl
theorem ni {P:Program} {w:World} {r:Reach} {base:Nat} {t:TypeId} {v:Value} {fs:Array Field} (ht:P.underlying t=some (.struct fs)) (h:Value.okWide P w r base t v):∃cs,v=.agg cs∧cs.size=P.cellsOf t:=by
 unfold Value.okWide at h;rw[ht] at h;obtain ⟨cs,h1,h2,-⟩:=h;exact ⟨cs,h1,h2⟩
section
variable {H:Type} {enc:TypeId×Value→H} {W:World} {fuel:Nat} {cs:List Value} {x:DataW H×List MemPlace}
theorem qC (h:DataW.trod enc prog W 0 (fun _=>true) true fuel 22 cs=some x):∃u ts,cs=[u]∧RRow W u ts:=by
 rcases open_strings underlying22 underlying9 mh h with ⟨hcs,_⟩ | ⟨a,len,cap,zs,hcs,_,hl,hm,hz,_,hcell,hw⟩
 · exact ⟨_,[],hcs,⟨⟨none,0,rfl,fun _=>rfl,aj _⟩,fun hj=>by cases hj⟩⟩
 · simp only[if_true] at hz;have hll:(zs.take len).length=len:=by rw[List.length_take];omega
   refine ⟨_,zs.take len,hcs,⟨⟨some a,cap,by rw[hll],(fun e=>by cases e),by omega⟩,fun {j t} hj=>?_⟩⟩
   have hjl:j<len:=by
    have:=(List.getElem?_eq_some_iff.1 hj).1;rwa [hll] at this
   have hc:=hcell j (by omega);obtain ⟨b,off,spot⟩:=a;have hspot:spot=none:=by simpa [Addr.add] using World.cell?_spot (hcell 0 (by omega))
   subst hspot;rw[add_plain] at hc;refine ⟨b,off,cap,by rw[hll],hc.trans ?_⟩;rw[List.getElem?_take,aF hjl] at hj;rw[aA,hj];rfl
theorem vw (h:DataW.trod enc prog W 0 (fun _=>true) true fuel 24 cs=some x):∃s b num k u ks us,cs=[.int .i64 s,.bool b,.string num,k,u]∧RRow W k ks∧RRow W u us:=by
 obtain ⟨xs,f,-,-,hlen,hxl,hf⟩:=DataW.trod_struct underlying24 h;rw[sF] at hlen
 match cs,hlen,xs,hxl with
 | [c0,c1,c2,c3,c4],_,[y0,y1,y2,y3,y4],_=>
   have g0:=hf 0 _ rfl;have g1:=hf 1 _ rfl;have g2:=hf 2 _ rfl;have g3:=hf 3 _ rfl;have g4:=hf 4 _ rfl
   simp[nR,qA,mh,qB] at g0 g1 g2 g3 g4
   obtain ⟨s,e0,-,-⟩:=DataW.trod_int underlying3 (show DataW.trod enc prog W 0 (fun _=>true) true f 3 [c0]=some y0 from g0);obtain ⟨b,e1,-⟩:=DataW.trod_bool underlying4 (show DataW.trod enc prog W 0 (fun _=>true) true f 4 [c1]=some y1 from g1);obtain ⟨num,e2,-,-⟩:=DataW.trod_string underlying9 (show DataW.trod enc prog W 0 (fun _=>true) true f 9 [c2]=some y2 from g2);obtain ⟨k,ks,e3,hk⟩:=qC (show DataW.trod enc prog W 0 (fun _=>true) true f 22 [c3]=some y3 from g3);obtain ⟨u,us,e4,hu⟩:=qC (show DataW.trod enc prog W 0 (fun _=>true) true f 22 [c4]=some y4 from g4);injection e0 with e0;injection e1 with e1;injection e2 with e2;injection e3 with e3;injection e4 with e4;exact ⟨s,b,num,k,u,ks,us,by rw[e0,e1,e2,e3,e4],hk,hu⟩
end
namespace Shp
theorem xa (H:Type) (enc:TypeId×Value→H) (W:World) (base:Nat) (args:Array Value) (ds gs:List (DataW H)) (before:List MemPlace)
    (hval:∀(j:Nat) t v,Tryz.f7.params[j]? =some t→args[j]? =some v→Value.okWide prog W .any base t v)
    (hW:DataW.Whole enc prog Tryz.f7.params.toList Rows.valueShapeSpec.vars false W args.toList ds gs before)
    (hL:laidMet prog pS W) (hsh:W.ShapedOpen prog):
    Calls prog 7 args W fun e W'=>∃v,e=.returned v∧Rows.valueShapeSpec.post enc prog Tryz.f7 false true false false W args v W':=by
 have hW':=hW;obtain ⟨p,q,hA0,hV,rfl,hfz,hnd⟩:=hW;have hA:DataW.TrodAll enc prog W 0 (fun _=>true) true Tryz.f7.params.toList args.toList ds p:=hA0;rw[Tryz.params7] at hA hval;obtain ⟨v0,vs0,d0,ds0,p0,q0,hargs,rfl,rfl,h0,r0⟩:=trodAll_cons hA;obtain ⟨v1,vs1,d1,ds1,p1,q1,rfl,rfl,rfl,h1,r1⟩:=trodAll_cons r0;obtain ⟨v2,vs2,d2,ds2,p2,q2,rfl,rfl,rfl,h2,r2⟩:=trodAll_cons r1;obtain ⟨rfl,rfl,rfl⟩:=trodAll_nil r2;obtain rfl:args=#[v0,v1,v2]:=by cases args;simp_all
 obtain ⟨rfl,rfl⟩:=trodVars_none hV;obtain ⟨cs0,rfl,-⟩:=ni underlying24 (hval 0 24 v0 rfl rfl);have h0k:=h0;obtain ⟨f0,hf0⟩:=h0;obtain ⟨z0,b0,t0,k0,u0,ks0,us0,e0,hk0,hu0⟩:=vw hf0
 obtain rfl:cs0=#[.int .i64 z0,.bool b0,.string t0,k0,u0]:=by
  have e:cs0.toList=[.int .i64 z0,.bool b0,.string t0,k0,u0]:=e0;rw[←Array.toArray_toList (xs:=cs0),e]
 obtain ⟨a1,wj,cap1,rfl⟩:=okWide_slice underlying33 (hval 1 33 v1 rfl rfl);have h1k:=h1;obtain ⟨n2,rfl,rfl,rfl,hwf2⟩:=open_int underlying3 (hval 2 3 v2 rfl rfl) h2;clear hA0;simp only[List.append_nil] at hW';have hlt:∀x∈p0++p1,x.block<W.heap.size:=fun x hx=>by simpa using hW'.lt x hx
 have harg0:∀(W':World) (sp:Nat→Bool),Below W.heap.size W W'→(∀p∈p0,sp p.block=true)→DataW.Trod enc prog W' 0 sp true 24 (.agg #[.int .i64 z0,.bool b0,.string t0,k0,u0]) d0 p0:=
  fun W' sp hn hsp=>WideElems.Trod_stays (P:=prog) jG (by kernel_rfl) (of_decide_eq_true (by kernel_rfl)) h0k (fun x hx=>hn.same (hlt x (List.mem_append.2 (.inl hx)))) hsp
 have harg1:∀(W':World) (sp:Nat→Bool),Below W.heap.size W W'→(∀p∈p1,sp p.block=true)→DataW.Trod enc prog W' 0 sp true 33 (.slice a1 wj cap1) d1 p1:=
  fun W' sp hn hsp=>WideElems.Trod_stays (P:=prog) jG (by kernel_rfl) (of_decide_eq_true (by kernel_rfl)) h1k (fun x hx=>hn.same (hlt x (List.mem_append.2 (.inr hx)))) hsp
 refine (vv  a1 wj cap1 n2 W (A3 hsh hL) hk0 hu0 (wZ h1k)).mono fun e W' ⟨he,hg⟩=>?_
 subst he
 exact ⟨_,rfl,tV (pa:=p0++p1) (pv:=[]) hW' (fun _ _ _=>trodAll_cons_mk (shut_bool underlying4 _) trodAll_mk0) (fun sp hsp=>by
     have t:=trodAll_cons_mk (harg0 W' sp hg (fun p hp=>hsp p (List.mem_append.2 (.inl hp)))) (trodAll_cons_mk (harg1 W' sp hg (fun p hp=>hsp p (List.mem_append.2 (.inr hp)))) (trodAll_cons_mk (shut_int underlying3 hwf2) trodAll_mk0));rw[show p0++(p1++([]++[]))=p0++p1 by simp] at t
     exact t) (fun _ _=>rfl) (by simp)
  hg (ok_one (by kernel_rfl) rfl (okWide_bool_mk underlying4 _))⟩
theorem xb (os:Os):laidMet prog Rows.valueShapeRow.laid ((World.laidAll prog os pS).forCall (fun _ _=>0) ⟨#[],#[.agg #[.int .i64 0,.bool false,.string ⟨#[]⟩,.slice none 0 0,.slice none 0 0],.slice none 0 0,.int .i64 0],[]⟩).memory:=
 laidMet_laidAll (laid:=pS) _ (by kernel_rfl) (by kernel_rfl)
theorem ic (os:Os) {H:Type} (enc:TypeId×Value→H):∃places,DataW.whole enc prog ((World.laidAll prog os pS).forCall (fun _ _=>0) ⟨#[],#[.agg #[.int .i64 0,.bool false,.string ⟨#[]⟩,.slice none 0 0,.slice none 0 0],.slice none 0 0,.int .i64 0],[]⟩).memory Tryz.f7.params.toList Rows.valueShapeSpec.vars false #[Value.agg #[.int .i64 0,.bool false,.string ⟨#[]⟩,.slice none 0 0,.slice none 0 0],.slice none 0 0,.int .i64 0].toList 8=some ([.agg [.lit (.int .i64 0),.lit (.bool false),.lit (.string []),.nil,.nil],.nil,.lit (.int .i64 0)],[],places):=
 ⟨[],by kernel_rfl⟩
theorem yU (os:Os):((World.laidAll prog os pS).forCall (fun _ _=>0) ⟨#[],#[.agg #[.int .i64 0,.bool false,.string ⟨#[]⟩,.slice none 0 0,.slice none 0 0],.slice none 0 0,.int .i64 0],[]⟩).Shaped prog:=World.shaped_of_ZipB (by kernel_rfl) (by kernel_rfl)
theorem Bi (os:Os):Input.okWideB prog ((World.laidAll prog os pS).forCall (fun _ _=>0) ⟨#[],#[.agg #[.int .i64 0,.bool false,.string ⟨#[]⟩,.slice none 0 0,.slice none 0 0],.slice none 0 0,.int .i64 0],[]⟩) 7 ⟨#[],#[.agg #[.int .i64 0,.bool false,.string ⟨#[]⟩,.slice none 0 0,.slice none 0 0],.slice none 0 0,.int .i64 0],[]⟩=true:=by kernel_rfl
theorem lifted (os:Os) (started:os.Started) (H:Type) (enc:TypeId×Value→H) (F:Stop.Interp):
    ReturnsInHanded {} Tryz.checked os 7 .any ((OpenSpec.ofChange Rows.valueShapeSpec).preRow enc prog Tryz.f7 Rows.valueShapeRow.domain false Rows.valueShapeRow.laid) (((OpenSpec.ofChange Rows.valueShapeSpec).at F).post enc prog Tryz.f7 false true false false):=by
 obtain ⟨places,hx⟩:=ic os enc
 refine returnsInHanded_of_row (C:=Tryz.checked) (s:=OpenSpec.ofChange Rows.valueShapeSpec) own started (by kernel_rfl) func7
  (rP (enc:=enc) (C:=Tryz.checked) (World.laidAll prog os pS) #[.agg #[.int .i64 0,.bool false,.string ⟨#[]⟩,.slice none 0 0,.slice none 0 0],.slice none 0 0,.int .i64 0] (World.laidAll_os _ _ _) (yU os) (Bi os)
    (OpenSpec.preRow_of_cond 8 hx (by kernel_rfl) (fun k hk=>by cases hk) (by kernel_rfl) (xb os))) ?_
 intro W base args ds gs before hval hW _ _ _ hL hsh _;exact xa H enc W base args ds gs before hval hW hL hsh
theorem lm_plainKeys:prog.plainKeys=Rows.valueShapeRow.plainKeys:=by kernel_rfl
theorem lm_lifted:prog.liftsFinal=Rows.valueShapeRow.lifted:=by kernel_rfl
theorem lm_make:prog.make=some Rows.valueShapeRow.make:=by kernel_rfl
theorem sG:(Rows.valueShapeRow.inPlace==prog.inPlace 7)=true:=by kernel_rfl
theorem nj:(Rows.valueShapeRow.unfollowed==prog.unfollowed 7)=true:=by kernel_rfl
theorem qD:(Rows.valueShapeRow.recurses==prog.recurses 7)=true:=by kernel_rfl
theorem xc:(Rows.valueShapeRow.named==prog.varsNamed 7)=true:=by kernel_rfl
theorem xd:joinedFacts prog 7 Tryz.f7 Rows.valueShapeSpec Rows.valueShapeRow=true:=by
 unfold joinedFacts;rw[jG,zP,lm_plainKeys,yt,rQ,lm_lifted,lm_make,sG,nj,qD,xc]
 kernel_rfl
theorem BT:Rows.ValueShapeSaid:=
 OpenClaim.holds_of_cond 7 Tryz.f7 rfl rfl rfl rfl rfl rfl rfl ⟨rfl,rfl,rfl,rfl,rfl⟩ rfl rfl rfl rfl rfl (by kernel_rfl) func7 xd
  (of_decide_eq_true (by kernel_rfl)) (by unfold Func.isWrapper;first | (rw[aF (by decide+kernel)];kernel_rfl) | (rw[aB (by decide+kernel)];exact ⟨rfl,rfl⟩))
  (fun os started H enc _ F=>by rw[OpenClaim.pre_eq_preRow];exact lifted os started H enc F)
theorem nS (f:FuncId) (fn:Func) (hf:Tryz.pinned.checked.prog.funcNamed Rows.valueShapeRow.func=some f) (hfn:Tryz.pinned.checked.prog.funcs[f]? =some fn):
    true=Tryz.pinned.checked.prog.looks []∧∀(j:Nat) t,fn.params[j]? =some t→Tryz.pinned.checked.prog.wantsStandIn t=false:=by
 obtain rfl:f=7:=aI ((show prog.funcNamed Rows.valueShapeRow.func=some 7 by kernel_rfl).symm.trans hf) |>.symm;obtain rfl:fn=Tryz.f7:=(aI (func7.symm.trans hfn)).symm;refine ⟨by kernel_rfl,fun j t ht=>?_⟩;rw[Tryz.params7] at ht;have hm:=Array.mem_of_getElem? ht;simp only[List.mem_toArray,List.mem_cons,List.not_mem_nil,or_false] at hm;rcases hm with rfl | rfl | rfl
 · exact (show prog.wantsStandIn 24=false by kernel_rfl)
 · exact (show prog.wantsStandIn 33=false by kernel_rfl)
 · exact (show prog.wantsStandIn 3=false by kernel_rfl)
theorem card:Rows.ValueShapeCardSaid:=
 Claim7.holds_tied_plain_at .later [] _ _ _ _ BT (fun _ h=>by cases h) (by kernel_rfl) (fun _ h=>by cases h) valueShape_row_tie rfl ⟨rfl,rfl⟩ (by kernel_rfl) rfl nS (by kernel_rfl)
end Shp
end Go.Proofs.YtpkfnnkbfphfbaaGreatDoor.Se

/-
  PROVED HERE: ValueArrays of layer 4: the row's statement and its tied card.
  CONDITIONS: those of the row alone (five package variables hold what the program's text lays: math/bits.deBruijn32tab, math/bits.deBruijn64tab, internal/strconv.uint64pow10, strconv.ErrRange, strconv.ErrSyntax; internal/bytealg.MaxLen holds any number).
-/
import Derived.Test.YtpkfnnkbfphfbaaGreatDoorGVO
import Derived.Test.YtpkfnnkbfphfbaaGreatDoorGGM
import Derived.Deep.Slices
import Derived.SliceStrings
set_option maxRecDepth 100000
set_option maxHeartbeats 40000000
namespace Go.Proofs.YtpkfnnkbfphfbaaGreatDoor.Se
open Go.ChangeShapes Go.WideShapes Go.ChangeAt Go.RowKit Go.ChangeMaps

theorem cells_int:Tryz.prog.cellsOf 3=1:=by kernel_rfl
theorem arg_ints {H:Type} {enc:TypeId×Value→H} {W:World} {a0:Option Addr} {len cap:Nat} {d:DataW H} {ps:List MemPlace} (h:DataW.Trod enc Tryz.prog W 0 (fun _=>true) true 33 (.slice a0 len cap) d ps):ArgI W a0 len cap:=by
  obtain ⟨fuel,hf⟩:=h
  rcases open_ints Tryz.underlying33 Tryz.underlying3 cells_int hf with ⟨hcs,_⟩ | ⟨a,len',cap',zs,hcs,_,hl,hm,hz,_,hcell,_⟩
  · simp[Value.cells] at hcs
    obtain ⟨rfl,rfl,rfl⟩:=hcs
    exact ⟨Nat.le_refl _,Nat.zero_le _,fun h=>absurd h (by omega)⟩
  · simp[Value.cells] at hcs
    obtain ⟨rfl,rfl,rfl⟩:=hcs
    simp only[if_true] at hz
    refine ⟨hl,hm,fun h0=>?_⟩
    obtain ⟨b,off,spot⟩:=a
    have hspot:spot=none:=by simpa [Addr.add] using World.cell?_spot (hcell 0 (by omega))
    subst hspot
    have hcell':∀j,j<zs.length→W.cell? ⟨b,off+j,none⟩=some (.int .i64 (zs.getD j 0)):=fun j hj=>by rw[←add_plain];exact hcell j hj
    exact ⟨b,off,rfl,World.block_lt_of_cell? _ _ (hcell' 0 (by omega)),fun t ht=>⟨_,hcell' t (by omega)⟩⟩
theorem cells_str2:Tryz.prog.cellsOf 9=1:=by kernel_rfl
theorem cells_bool2:Tryz.prog.cellsOf 4=1:=by kernel_rfl
theorem cells_strs2:Tryz.prog.cellsOf 22=1:=by kernel_rfl
theorem cells_val5:Tryz.prog.cellsOf 24=5:=by kernel_rfl
theorem okWide_struct {P:Program} {w:World} {r:Reach} {base:Nat} {t:TypeId} {v:Value} {fs:Array Field} (ht:P.underlying t=some (.struct fs)) (h:Value.okWide P w r base t v):∃cs,v=.agg cs∧cs.size=P.cellsOf t:=by
  unfold Value.okWide at h
  rw[ht] at h
  obtain ⟨cs,h1,h2,-⟩:=h
  exact ⟨cs,h1,h2⟩
section
variable {H:Type} {enc:TypeId×Value→H} {W:World} {fuel:Nat} {cs:List Value} {x:DataW H×List MemPlace}
theorem arg_rrow (h:DataW.trod enc Tryz.prog W 0 (fun _=>true) true fuel 22 cs=some x):∃u ts,cs=[u]∧RRow W u ts:=by
  rcases open_strings Tryz.underlying22 Tryz.underlying9 cells_str2 h with ⟨hcs,_⟩ | ⟨a,len,cap,zs,hcs,_,hl,hm,hz,_,hcell,hw⟩
  · exact ⟨_,[],hcs,⟨⟨none,0,rfl,fun _=>rfl,Nat.le_refl _⟩,fun hj=>by cases hj⟩⟩
  · simp only[if_true] at hz
    have hll:(zs.take len).length=len:=by rw[List.length_take];omega
    refine ⟨_,zs.take len,hcs,⟨⟨some a,cap,by rw[hll],(fun e=>by cases e),by omega⟩,fun {j t} hj=>?_⟩⟩
    have hjl:j<len:=by
      have:=(List.getElem?_eq_some_iff.1 hj).1
      rwa [hll] at this
    have hc:=hcell j (by omega)
    obtain ⟨b,off,spot⟩:=a
    have hspot:spot=none:=by simpa [Addr.add] using World.cell?_spot (hcell 0 (by omega))
    subst hspot
    rw[add_plain] at hc
    refine ⟨b,off,cap,by rw[hll],hc.trans ?_⟩
    rw[List.getElem?_take,if_pos hjl] at hj
    rw[List.getD_eq_getElem?_getD,hj]
    rfl
theorem arg_value (h:DataW.trod enc Tryz.prog W 0 (fun _=>true) true fuel 24 cs=some x):∃s b num k u ks us,cs=[.int .i64 s,.bool b,.string num,k,u]∧RRow W k ks∧RRow W u us:=by
  obtain ⟨xs,f,-,-,hlen,hxl,hf⟩:=DataW.trod_struct Tryz.underlying24 h
  rw[cells_val5] at hlen
  match cs,hlen,xs,hxl with
  | [c0,c1,c2,c3,c4],_,[y0,y1,y2,y3,y4],_=>
    have g0:=hf 0 _ rfl
    have g1:=hf 1 _ rfl
    have g2:=hf 2 _ rfl
    have g3:=hf 3 _ rfl
    have g4:=hf 4 _ rfl
    simp[cells_int,cells_bool2,cells_str2,cells_strs2] at g0 g1 g2 g3 g4
    obtain ⟨s,e0,-,-⟩:=DataW.trod_int Tryz.underlying3 (show DataW.trod enc Tryz.prog W 0 (fun _=>true) true f 3 [c0]=some y0 from g0)
    obtain ⟨b,e1,-⟩:=DataW.trod_bool Tryz.underlying4 (show DataW.trod enc Tryz.prog W 0 (fun _=>true) true f 4 [c1]=some y1 from g1)
    obtain ⟨num,e2,-,-⟩:=DataW.trod_string Tryz.underlying9 (show DataW.trod enc Tryz.prog W 0 (fun _=>true) true f 9 [c2]=some y2 from g2)
    obtain ⟨k,ks,e3,hk⟩:=arg_rrow (show DataW.trod enc Tryz.prog W 0 (fun _=>true) true f 22 [c3]=some y3 from g3)
    obtain ⟨u,us,e4,hu⟩:=arg_rrow (show DataW.trod enc Tryz.prog W 0 (fun _=>true) true f 22 [c4]=some y4 from g4)
    injection e0 with e0
    injection e1 with e1
    injection e2 with e2
    injection e3 with e3
    injection e4 with e4
    exact ⟨s,b,num,k,u,ks,us,by rw[e0,e1,e2,e3,e4],hk,hu⟩
end

namespace Arr
theorem contract (H:Type) (enc:TypeId×Value→H) (W:World) (base:Nat) (args:Array Value) (ds gs:List (DataW H)) (before:List MemPlace)
    (hval:∀(j:Nat) t v,Tryz.f4.params[j]? =some t→args[j]? =some v→Value.okWide Tryz.prog W .any base t v)
    (hW:DataW.Whole enc Tryz.prog Tryz.f4.params.toList Rows.valueArraysSpec.vars false W args.toList ds gs before)
    (hL:laidMet Tryz.prog lays W) (hsh:W.ShapedOpen Tryz.prog):
    Calls Tryz.prog 4 args W fun e W'=>∃v,e=.returned v∧Rows.valueArraysSpec.post enc Tryz.prog Tryz.f4 false true false false W args v W':=by
  have hW':=hW
  obtain ⟨p,q,hA0,hV,rfl,hfz,hnd⟩:=hW
  have hA:DataW.TrodAll enc Tryz.prog W 0 (fun _=>true) true Tryz.f4.params.toList args.toList ds p:=hA0
  rw[Tryz.params4] at hA hval
  obtain ⟨v0,vs0,d0,ds0,p0,q0,hargs,rfl,rfl,h0,r0⟩:=trodAll_cons hA
  obtain ⟨v1,vs1,d1,ds1,p1,q1,rfl,rfl,rfl,h1,r1⟩:=trodAll_cons r0
  obtain ⟨v2,vs2,d2,ds2,p2,q2,rfl,rfl,rfl,h2,r2⟩:=trodAll_cons r1
  obtain ⟨v3,vs3,d3,ds3,p3,q3,rfl,rfl,rfl,h3,r3⟩:=trodAll_cons r2
  obtain ⟨v4,vs4,d4,ds4,p4,q4,rfl,rfl,rfl,h4,r4⟩:=trodAll_cons r3
  obtain ⟨rfl,rfl,rfl⟩:=trodAll_nil r4
  obtain rfl:args=#[v0,v1,v2,v3,v4]:=by cases args;simp_all
  obtain ⟨rfl,rfl⟩:=trodVars_none hV
  obtain ⟨cs0,rfl,-⟩:=okWide_struct Tryz.underlying24 (hval 0 24 v0 rfl rfl)
  have h0k:=h0
  obtain ⟨f0,hf0⟩:=h0
  obtain ⟨z0,b0,t0,k0,u0,ks0,us0,e0,hk0,hu0⟩:=arg_value hf0
  obtain rfl:cs0=#[.int .i64 z0,.bool b0,.string t0,k0,u0]:=by
    have e:cs0.toList=[.int .i64 z0,.bool b0,.string t0,k0,u0]:=e0
    rw[←Array.toArray_toList (xs:=cs0),e]
  obtain ⟨s1,rfl,rfl,rfl,hs1⟩:=open_string Tryz.underlying9 (hval 1 9 v1 rfl rfl) h1
  obtain ⟨s2,rfl,rfl,rfl,hs2⟩:=open_string Tryz.underlying9 (hval 2 9 v2 rfl rfl) h2
  obtain ⟨a3,len3,cap3,rfl⟩:=okWide_slice Tryz.underlying33 (hval 3 33 v3 rfl rfl)
  have h3k:=h3
  obtain ⟨a4,len4,cap4,rfl⟩:=okWide_slice Tryz.underlying33 (hval 4 33 v4 rfl rfl)
  have h4k:=h4
  clear hA0
  simp only[List.append_nil,List.nil_append] at hW'
  have hlt:∀x∈p0++(p3++p4),x.block<W.heap.size:=fun x hx=>by simpa using hW'.lt x hx
  have harg0:∀(W':World) (sp:Nat→Bool),Below W.heap.size W W'→(∀p∈p0,sp p.block=true)→DataW.Trod enc Tryz.prog W' 0 sp true 24 (.agg #[.int .i64 z0,.bool b0,.string t0,k0,u0]) d0 p0:=
    fun W' sp hn hsp=>WideElems.Trod_stays (P:=Tryz.prog) lm_laidOut (by kernel_rfl) (of_decide_eq_true (by kernel_rfl)) h0k (fun x hx=>hn.same (hlt x (List.mem_append.2 (.inl hx)))) hsp
  have harg3:∀(W':World) (sp:Nat→Bool),Below W.heap.size W W'→(∀p∈p3,sp p.block=true)→DataW.Trod enc Tryz.prog W' 0 sp true 33 (.slice a3 len3 cap3) d3 p3:=
    fun W' sp hn hsp=>WideElems.Trod_stays (P:=Tryz.prog) lm_laidOut (by kernel_rfl) (of_decide_eq_true (by kernel_rfl)) h3k (fun x hx=>hn.same (hlt x (List.mem_append.2 (.inr (List.mem_append.2 (.inl hx)))))) hsp
  have harg4:∀(W':World) (sp:Nat→Bool),Below W.heap.size W W'→(∀p∈p4,sp p.block=true)→DataW.Trod enc Tryz.prog W' 0 sp true 33 (.slice a4 len4 cap4) d4 p4:=
    fun W' sp hn hsp=>WideElems.Trod_stays (P:=Tryz.prog) lm_laidOut (by kernel_rfl) (of_decide_eq_true (by kernel_rfl)) h4k (fun x hx=>hn.same (hlt x (List.mem_append.2 (.inr (List.mem_append.2 (.inr hx)))))) hsp
  refine (arr_law  s1 s2 a3 len3 cap3 a4 len4 cap4 W (env_of hsh hL) hk0 hu0 (arg_ints h3k) (arg_ints h4k)).mono fun e W' ⟨he,hg⟩=>?_
  subst he
  exact ⟨_,rfl,post_fresh (pa:=p0++(p3++p4)) (pv:=[]) hW' (fun _ _ _=>trodAll_cons_mk (shut_bool Tryz.underlying4 _) trodAll_mk0) (fun sp hsp=>by
      have t:=trodAll_cons_mk (harg0 W' sp hg (fun p hp=>hsp p (List.mem_append.2 (.inl hp)))) (trodAll_cons_mk (shut_string Tryz.underlying9 hs1) (trodAll_cons_mk (shut_string Tryz.underlying9 hs2) (trodAll_cons_mk (harg3 W' sp hg (fun p hp=>hsp p (List.mem_append.2 (.inr (List.mem_append.2 (.inl hp)))))) (trodAll_cons_mk (harg4 W' sp hg (fun p hp=>hsp p (List.mem_append.2 (.inr (List.mem_append.2 (.inr hp)))))) trodAll_mk0))))
      rw[show p0++([]++([]++(p3++(p4++[]))))=p0++(p3++p4) by simp] at t
      exact t) (fun _ _=>rfl) (by simp)
    hg (ok_one (by kernel_rfl) rfl (okWide_bool_mk Tryz.underlying4 _))⟩

theorem laid_met (os:Os):laidMet Tryz.prog Rows.valueArraysRow.laid ((World.laidAll Tryz.prog os lays).forCall (fun _ _=>0) ⟨#[],#[.agg #[.int .i64 0,.bool false,.string ⟨#[]⟩,.slice none 0 0,.slice none 0 0],.string ⟨#[]⟩,.string ⟨#[]⟩,.slice none 0 0,.slice none 0 0],[]⟩).memory:=
  laidMet_laidAll (laid:=lays) _ (by kernel_rfl) (by kernel_rfl)
theorem reads (os:Os) {H:Type} (enc:TypeId×Value→H):∃places,DataW.whole enc Tryz.prog ((World.laidAll Tryz.prog os lays).forCall (fun _ _=>0) ⟨#[],#[.agg #[.int .i64 0,.bool false,.string ⟨#[]⟩,.slice none 0 0,.slice none 0 0],.string ⟨#[]⟩,.string ⟨#[]⟩,.slice none 0 0,.slice none 0 0],[]⟩).memory Tryz.f4.params.toList Rows.valueArraysSpec.vars false #[Value.agg #[.int .i64 0,.bool false,.string ⟨#[]⟩,.slice none 0 0,.slice none 0 0],.string ⟨#[]⟩,.string ⟨#[]⟩,.slice none 0 0,.slice none 0 0].toList 8=some ([.agg [.lit (.int .i64 0),.lit (.bool false),.lit (.string []),.nil,.nil],.lit (.string []),.lit (.string []),.nil,.nil],[],places):=
  ⟨[],by kernel_rfl⟩
theorem shaped0 (os:Os):((World.laidAll Tryz.prog os lays).forCall (fun _ _=>0) ⟨#[],#[.agg #[.int .i64 0,.bool false,.string ⟨#[]⟩,.slice none 0 0,.slice none 0 0],.string ⟨#[]⟩,.string ⟨#[]⟩,.slice none 0 0,.slice none 0 0],[]⟩).Shaped Tryz.prog:=World.shaped_of_ZipB (by kernel_rfl) (by kernel_rfl)
theorem okay0 (os:Os):Input.okWideB Tryz.prog ((World.laidAll Tryz.prog os lays).forCall (fun _ _=>0) ⟨#[],#[.agg #[.int .i64 0,.bool false,.string ⟨#[]⟩,.slice none 0 0,.slice none 0 0],.string ⟨#[]⟩,.string ⟨#[]⟩,.slice none 0 0,.slice none 0 0],[]⟩) 4 ⟨#[],#[.agg #[.int .i64 0,.bool false,.string ⟨#[]⟩,.slice none 0 0,.slice none 0 0],.string ⟨#[]⟩,.string ⟨#[]⟩,.slice none 0 0,.slice none 0 0],[]⟩=true:=by kernel_rfl
theorem lifted (os:Os) (started:os.Started) (H:Type) (enc:TypeId×Value→H) (F:Stop.Interp):
    ReturnsInHanded {} Tryz.checked os 4 .any ((OpenSpec.ofChange Rows.valueArraysSpec).preRow enc Tryz.prog Tryz.f4 Rows.valueArraysRow.domain false Rows.valueArraysRow.laid) (((OpenSpec.ofChange Rows.valueArraysSpec).at F).post enc Tryz.prog Tryz.f4 false true false false):=by
  obtain ⟨places,hx⟩:=reads os enc
  refine returnsInHanded_of_row (C:=Tryz.checked) (s:=OpenSpec.ofChange Rows.valueArraysSpec) own started (by kernel_rfl) Tryz.func4
    (witness_zip (enc:=enc) (C:=Tryz.checked) (World.laidAll Tryz.prog os lays) #[.agg #[.int .i64 0,.bool false,.string ⟨#[]⟩,.slice none 0 0,.slice none 0 0],.string ⟨#[]⟩,.string ⟨#[]⟩,.slice none 0 0,.slice none 0 0] (World.laidAll_os _ _ _) (shaped0 os) (okay0 os)
      (OpenSpec.preRow_of_cond 8 hx (by kernel_rfl) (fun k hk=>by cases hk) (by kernel_rfl) (laid_met os))) ?_
  intro W base args ds gs before hval hW _ _ _ hL hsh _
  exact contract H enc W base args ds gs before hval hW hL hsh

theorem lm_plainKeys:Tryz.prog.plainKeys=Rows.valueArraysRow.plainKeys:=by kernel_rfl
theorem lm_lifted:Tryz.prog.liftsFinal=Rows.valueArraysRow.lifted:=by kernel_rfl
theorem lm_make:Tryz.prog.make=some Rows.valueArraysRow.make:=by kernel_rfl
theorem lm_inPlace:(Rows.valueArraysRow.inPlace==Tryz.prog.inPlace 4)=true:=by kernel_rfl
theorem lm_unfollowed:(Rows.valueArraysRow.unfollowed==Tryz.prog.unfollowed 4)=true:=by kernel_rfl
theorem lm_recurses:(Rows.valueArraysRow.recurses==Tryz.prog.recurses 4)=true:=by kernel_rfl
theorem lm_named:(Rows.valueArraysRow.named==Tryz.prog.varsNamed 4)=true:=by kernel_rfl
theorem facts:joinedFacts Tryz.prog 4 Tryz.f4 Rows.valueArraysSpec Rows.valueArraysRow=true:=by
  unfold joinedFacts
  rw[lm_laidOut,lm_maps,lm_plainKeys,lm_heard,lm_mayEnter,lm_lifted,lm_make,lm_inPlace,lm_unfollowed,lm_recurses,lm_named]
  kernel_rfl
theorem said:Rows.ValueArraysSaid:=
  OpenClaim.holds_of_cond 4 Tryz.f4 rfl rfl rfl rfl rfl rfl rfl ⟨rfl,rfl,rfl,rfl,rfl⟩ rfl rfl rfl rfl rfl (by kernel_rfl) Tryz.func4 facts
    (of_decide_eq_true (by kernel_rfl)) (by unfold Func.isWrapper;first | (rw[if_pos (by decide+kernel)];kernel_rfl) | (rw[if_neg (by decide+kernel)];exact ⟨rfl,rfl⟩))
    (fun os started H enc _ F=>by rw[OpenClaim.pre_eq_preRow];exact lifted os started H enc F)

theorem plain (f:FuncId) (fn:Func) (hf:Tryz.pinned.checked.prog.funcNamed Rows.valueArraysRow.func=some f) (hfn:Tryz.pinned.checked.prog.funcs[f]? =some fn):
    true=Tryz.pinned.checked.prog.looks []∧∀(j:Nat) t,fn.params[j]? =some t→Tryz.pinned.checked.prog.wantsStandIn t=false:=by
  obtain rfl:f=4:=Option.some.inj ((show Tryz.prog.funcNamed Rows.valueArraysRow.func=some 4 by kernel_rfl).symm.trans hf) |>.symm
  obtain rfl:fn=Tryz.f4:=(Option.some.inj (Tryz.func4.symm.trans hfn)).symm
  refine ⟨by kernel_rfl,fun j t ht=>?_⟩
  rw[Tryz.params4] at ht
  have hm:=Array.mem_of_getElem? ht
  simp only[List.mem_toArray,List.mem_cons,List.not_mem_nil,or_false] at hm
  rcases hm with rfl | rfl | rfl | rfl | rfl
  · exact (show Tryz.prog.wantsStandIn 24=false by kernel_rfl)
  · exact (show Tryz.prog.wantsStandIn 9=false by kernel_rfl)
  · exact (show Tryz.prog.wantsStandIn 9=false by kernel_rfl)
  · exact (show Tryz.prog.wantsStandIn 33=false by kernel_rfl)
  · exact (show Tryz.prog.wantsStandIn 33=false by kernel_rfl)

theorem card:Rows.ValueArraysCardSaid:=
  Claim7.holds_tied_plain_at .later [] _ _ _ _ said (fun _ h=>by cases h) (by kernel_rfl) (fun _ h=>by cases h) valueArrays_row_tie rfl ⟨rfl,rfl⟩ (by kernel_rfl) rfl plain (by kernel_rfl)
end Arr
end Go.Proofs.YtpkfnnkbfphfbaaGreatDoor.Se

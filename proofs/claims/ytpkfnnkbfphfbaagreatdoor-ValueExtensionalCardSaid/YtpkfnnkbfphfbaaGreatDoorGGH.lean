/-
  PROVED HERE: ValueExtensional of layer 4: the row's statement and its tied card.
  CONDITIONS: those of the row alone (five package variables hold what the program's text lays: math/bits.deBruijn32tab, math/bits.deBruijn64tab, internal/strconv.uint64pow10, strconv.ErrRange, strconv.ErrSyntax; internal/bytealg.MaxLen holds any number).
-/
import Derived.Test.YtpkfnnkbfphfbaaGreatDoorGVO
import Derived.Test.YtpkfnnkbfphfbaaGreatDoorGGB
import Derived.Deep.Slices
set_option maxRecDepth 100000
set_option maxHeartbeats 40000000
namespace Go.Proofs.YtpkfnnkbfphfbaaGreatDoor.Se
open Go.ChangeShapes Go.WideShapes Go.ChangeAt Go.RowKit Go.ChangeMaps

theorem cells_int:Tryz.prog.cellsOf 3=1:=by kernel_rfl
theorem arg_ints {H:Type} {enc:TypeId×Value→H} {W:World} {a0:Option Addr} {len cap:Nat} {d:DataW H} {ps:List MemPlace} (h:DataW.Trod enc Tryz.prog W 0 (fun _=>true) true 33 (.slice a0 len cap) d ps):ArgI W a0 len cap:=by
  obtain ⟨fuel,hf⟩:=h
  rcases open_ints Tryz.underlying33 Tryz.underlying3 cells_int hf with ⟨hcs,_⟩ | ⟨a,len',cap',zs,hcs,_,hl,hm,hz,_,hcell,_⟩
  · simp[Value.cells] at hcs
    obtain ⟨rfl,rfl,rfl⟩:=hcs
    exact ⟨Nat.le_refl _,Nat.zero_le _,fun h=>absurd h (by omega)⟩
  · simp[Value.cells] at hcs
    obtain ⟨rfl,rfl,rfl⟩:=hcs
    simp only[if_true] at hz
    refine ⟨hl,hm,fun h0=>?_⟩
    obtain ⟨b,off,spot⟩:=a
    have hspot:spot=none:=by simpa [Addr.add] using World.cell?_spot (hcell 0 (by omega))
    subst hspot
    have hcell':∀j,j<zs.length→W.cell? ⟨b,off+j,none⟩=some (.int .i64 (zs.getD j 0)):=fun j hj=>by rw[←add_plain];exact hcell j hj
    exact ⟨b,off,rfl,World.block_lt_of_cell? _ _ (hcell' 0 (by omega)),fun t ht=>⟨_,hcell' t (by omega)⟩⟩

namespace Ext
theorem contract (H:Type) (enc:TypeId×Value→H) (W:World) (base:Nat) (args:Array Value) (ds gs:List (DataW H)) (before:List MemPlace)
    (hval:∀(j:Nat) t v,Tryz.f6.params[j]? =some t→args[j]? =some v→Value.okWide Tryz.prog W .any base t v)
    (hW:DataW.Whole enc Tryz.prog Tryz.f6.params.toList Rows.valueExtensionalSpec.vars false W args.toList ds gs before)
    (hL:laidMet Tryz.prog lays W) (hsh:W.ShapedOpen Tryz.prog):
    Calls Tryz.prog 6 args W fun e W'=>∃v,e=.returned v∧Rows.valueExtensionalSpec.post enc Tryz.prog Tryz.f6 false true false false W args v W':=by
  have hW':=hW
  obtain ⟨p,q,hA0,hV,rfl,hfz,hnd⟩:=hW
  have hA:DataW.TrodAll enc Tryz.prog W 0 (fun _=>true) true Tryz.f6.params.toList args.toList ds p:=hA0
  rw[Tryz.params6] at hA hval
  obtain ⟨v0,vs0,d0,ds0,p0,q0,hargs,rfl,rfl,h0,r0⟩:=trodAll_cons hA
  obtain ⟨v1,vs1,d1,ds1,p1,q1,rfl,rfl,rfl,h1,r1⟩:=trodAll_cons r0
  obtain ⟨rfl,rfl,rfl⟩:=trodAll_nil r1
  obtain rfl:args=#[v0,v1]:=by cases args;simp_all
  obtain ⟨rfl,rfl⟩:=trodVars_none hV
  obtain ⟨a0,len0,cap0,rfl⟩:=okWide_slice Tryz.underlying33 (hval 0 33 v0 rfl rfl)
  have h0k:=h0
  obtain ⟨a1,len1,cap1,rfl⟩:=okWide_slice Tryz.underlying33 (hval 1 33 v1 rfl rfl)
  have h1k:=h1
  clear hA0
  simp only[List.append_nil] at hW'
  have hlt:∀x∈p0++p1,x.block<W.heap.size:=fun x hx=>by simpa using hW'.lt x hx
  have harg0:∀(W':World) (sp:Nat→Bool),Below W.heap.size W W'→(∀p∈p0,sp p.block=true)→DataW.Trod enc Tryz.prog W' 0 sp true 33 (.slice a0 len0 cap0) d0 p0:=
    fun W' sp hn hsp=>WideElems.Trod_stays (P:=Tryz.prog) lm_laidOut (by kernel_rfl) (of_decide_eq_true (by kernel_rfl)) h0k (fun x hx=>hn.same (hlt x (List.mem_append.2 (.inl hx)))) hsp
  have harg1:∀(W':World) (sp:Nat→Bool),Below W.heap.size W W'→(∀p∈p1,sp p.block=true)→DataW.Trod enc Tryz.prog W' 0 sp true 33 (.slice a1 len1 cap1) d1 p1:=
    fun W' sp hn hsp=>WideElems.Trod_stays (P:=Tryz.prog) lm_laidOut (by kernel_rfl) (of_decide_eq_true (by kernel_rfl)) h1k (fun x hx=>hn.same (hlt x (List.mem_append.2 (.inr hx)))) hsp
  refine (ext_law a0 len0 cap0 a1 len1 cap1 W (env_of hsh hL) (arg_ints h0k) (arg_ints h1k)).mono fun e W' ⟨he,hg⟩=>?_
  subst he
  exact ⟨_,rfl,post_fresh (pa:=p0++p1) (pv:=[]) hW' (fun _ _ _=>trodAll_cons_mk (shut_bool Tryz.underlying4 _) trodAll_mk0) (fun sp hsp=>by
      have t:=trodAll_cons_mk (harg0 W' sp hg (fun p hp=>hsp p (List.mem_append.2 (.inl hp)))) (trodAll_cons_mk (harg1 W' sp hg (fun p hp=>hsp p (List.mem_append.2 (.inr hp)))) trodAll_mk0)
      rw[show p0++(p1++[])=p0++p1 by simp] at t
      exact t) (fun _ _=>rfl) (by simp)
    hg (ok_one (by kernel_rfl) rfl (okWide_bool_mk Tryz.underlying4 _))⟩

theorem laid_met (os:Os):laidMet Tryz.prog Rows.valueExtensionalRow.laid ((World.laidAll Tryz.prog os lays).forCall (fun _ _=>0) ⟨#[],#[.slice none 0 0,.slice none 0 0],[]⟩).memory:=
  laidMet_laidAll (laid:=lays) _ (by kernel_rfl) (by kernel_rfl)
theorem reads (os:Os) {H:Type} (enc:TypeId×Value→H):∃places,DataW.whole enc Tryz.prog ((World.laidAll Tryz.prog os lays).forCall (fun _ _=>0) ⟨#[],#[.slice none 0 0,.slice none 0 0],[]⟩).memory Tryz.f6.params.toList Rows.valueExtensionalSpec.vars false #[Value.slice none 0 0,.slice none 0 0].toList 8=some ([.nil,.nil],[],places):=
  ⟨[],by kernel_rfl⟩
theorem shaped0 (os:Os):((World.laidAll Tryz.prog os lays).forCall (fun _ _=>0) ⟨#[],#[.slice none 0 0,.slice none 0 0],[]⟩).Shaped Tryz.prog:=World.shaped_of_ZipB (by kernel_rfl) (by kernel_rfl)
theorem okay0 (os:Os):Input.okWideB Tryz.prog ((World.laidAll Tryz.prog os lays).forCall (fun _ _=>0) ⟨#[],#[.slice none 0 0,.slice none 0 0],[]⟩) 6 ⟨#[],#[.slice none 0 0,.slice none 0 0],[]⟩=true:=by kernel_rfl
theorem lifted (os:Os) (started:os.Started) (H:Type) (enc:TypeId×Value→H) (F:Stop.Interp):
    ReturnsInHanded {} Tryz.checked os 6 .any ((OpenSpec.ofChange Rows.valueExtensionalSpec).preRow enc Tryz.prog Tryz.f6 Rows.valueExtensionalRow.domain false Rows.valueExtensionalRow.laid) (((OpenSpec.ofChange Rows.valueExtensionalSpec).at F).post enc Tryz.prog Tryz.f6 false true false false):=by
  obtain ⟨places,hx⟩:=reads os enc
  refine returnsInHanded_of_row (C:=Tryz.checked) (s:=OpenSpec.ofChange Rows.valueExtensionalSpec) own started (by kernel_rfl) Tryz.func6
    (witness_zip (enc:=enc) (C:=Tryz.checked) (World.laidAll Tryz.prog os lays) #[.slice none 0 0,.slice none 0 0] (World.laidAll_os _ _ _) (shaped0 os) (okay0 os)
      (OpenSpec.preRow_of_cond 8 hx (by kernel_rfl) (fun k hk=>by cases hk) (by kernel_rfl) (laid_met os))) ?_
  intro W base args ds gs before hval hW _ _ _ hL hsh _
  exact contract H enc W base args ds gs before hval hW hL hsh

theorem lm_plainKeys:Tryz.prog.plainKeys=Rows.valueExtensionalRow.plainKeys:=by kernel_rfl
theorem lm_lifted:Tryz.prog.liftsFinal=Rows.valueExtensionalRow.lifted:=by kernel_rfl
theorem lm_make:Tryz.prog.make=some Rows.valueExtensionalRow.make:=by kernel_rfl
theorem lm_inPlace:(Rows.valueExtensionalRow.inPlace==Tryz.prog.inPlace 6)=true:=by kernel_rfl
theorem lm_unfollowed:(Rows.valueExtensionalRow.unfollowed==Tryz.prog.unfollowed 6)=true:=by kernel_rfl
theorem lm_recurses:(Rows.valueExtensionalRow.recurses==Tryz.prog.recurses 6)=true:=by kernel_rfl
theorem lm_named:(Rows.valueExtensionalRow.named==Tryz.prog.varsNamed 6)=true:=by kernel_rfl
theorem facts:joinedFacts Tryz.prog 6 Tryz.f6 Rows.valueExtensionalSpec Rows.valueExtensionalRow=true:=by
  unfold joinedFacts
  rw[lm_laidOut,lm_maps,lm_plainKeys,lm_heard,lm_mayEnter,lm_lifted,lm_make,lm_inPlace,lm_unfollowed,lm_recurses,lm_named]
  kernel_rfl
theorem said:Rows.ValueExtensionalSaid:=
  OpenClaim.holds_of_cond 6 Tryz.f6 rfl rfl rfl rfl rfl rfl rfl ⟨rfl,rfl,rfl,rfl,rfl⟩ rfl rfl rfl rfl rfl (by kernel_rfl) Tryz.func6 facts
    (of_decide_eq_true (by kernel_rfl)) (by unfold Func.isWrapper;first | (rw[if_pos (by decide+kernel)];kernel_rfl) | (rw[if_neg (by decide+kernel)];exact ⟨rfl,rfl⟩))
    (fun os started H enc _ F=>by rw[OpenClaim.pre_eq_preRow];exact lifted os started H enc F)

theorem plain (f:FuncId) (fn:Func) (hf:Tryz.pinned.checked.prog.funcNamed Rows.valueExtensionalRow.func=some f) (hfn:Tryz.pinned.checked.prog.funcs[f]? =some fn):
    true=Tryz.pinned.checked.prog.looks []∧∀(j:Nat) t,fn.params[j]? =some t→Tryz.pinned.checked.prog.wantsStandIn t=false:=by
  obtain rfl:f=6:=Option.some.inj ((show Tryz.prog.funcNamed Rows.valueExtensionalRow.func=some 6 by kernel_rfl).symm.trans hf) |>.symm
  obtain rfl:fn=Tryz.f6:=(Option.some.inj (Tryz.func6.symm.trans hfn)).symm
  refine ⟨by kernel_rfl,fun j t ht=>?_⟩
  rw[Tryz.params6] at ht
  have hm:=Array.mem_of_getElem? ht
  simp only[List.mem_toArray,List.mem_cons,List.not_mem_nil,or_false] at hm
  rcases hm with rfl | rfl
  · exact (show Tryz.prog.wantsStandIn 33=false by kernel_rfl)
  · exact (show Tryz.prog.wantsStandIn 33=false by kernel_rfl)

theorem card:Rows.ValueExtensionalCardSaid:=
  Claim7.holds_tied_plain_at .later [] _ _ _ _ said (fun _ h=>by cases h) (by kernel_rfl) (fun _ h=>by cases h) valueExtensional_row_tie rfl ⟨rfl,rfl⟩ (by kernel_rfl) rfl plain (by kernel_rfl)
end Ext
end Go.Proofs.YtpkfnnkbfphfbaaGreatDoor.Se

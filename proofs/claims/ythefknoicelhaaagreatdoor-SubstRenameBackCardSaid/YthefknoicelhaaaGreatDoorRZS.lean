import Derived.Deep.Slices
import Derived.Test.YthefknoicelhaaaGreatDoorFNB
import Derived.Test.YthefknoicelhaaaGreatDoorRLS
import Derived.Test.YthefknoicelhaaaGreatDoorFNC
import Derived.Test.YthefknoicelhaaaGreatDoorFShelf
import Derived.Test.YthefknoicelhaaaGreatDoorFNG
import Derived.Test.YthefknoicelhaaaGreatDoorFNH
import Derived.Test.YthefknoicelhaaaGreatDoorFNI
import Derived.Test.YthefknoicelhaaaGreatDoorFNL
import Derived.Test.YthefknoicelhaaaGreatDoorFNM
import Derived.Test.YthefknoicelhaaaGreatDoorFNN
import Derived.Test.YthefknoicelhaaaGreatDoorFNO
import Derived.Test.YthefknoicelhaaaGreatDoorFNS
import Derived.Test.YthefknoicelhaaaGreatDoorFRB
import Derived.Test.YthefknoicelhaaaGreatDoorFRG
import Derived.Test.YthefknoicelhaaaGreatDoorFNV
import Derived.Test.YthefknoicelhaaaGreatDoorFVO
import Derived.Test.YthefknoicelhaaaGreatDoorFUQ
import Derived.Test.YthefknoicelhaaaGreatDoorFTB
import Derived.Test.YthefknoicelhaaaGreatDoorFZF
import Derived.Test.YthefknoicelhaaaGreatDoorFZG
import Derived.Test.YthefknoicelhaaaGreatDoorFZH
import Derived.Test.YthefknoicelhaaaGreatDoorFSQ
import Derived.Test.YthefknoicelhaaaGreatDoorFST
import Derived.Test.YthefknoicelhaaaGreatDoorFUC
import Derived.Test.YthefknoicelhaaaGreatDoorFUD
import Derived.Test.YthefknoicelhaaaGreatDoorFLS
import Derived.Test.YthefknoicelhaaaGreatDoorFUE
import Derived.Test.YthefknoicelhaaaGreatDoorFUF
import Derived.Test.YthefknoicelhaaaGreatDoorFUJ
import Derived.Test.YthefknoicelhaaaGreatDoorFUK
import Derived.Test.YthefknoicelhaaaGreatDoorFUS
import Derived.Test.YthefknoicelhaaaGreatDoorFZI
import Derived.Test.YthefknoicelhaaaGreatDoorFVL
import Derived.Test.YthefknoicelhaaaGreatDoorRWJ
import Derived.Test.YthefknoicelhaaaGreatDoorFZJ
import Derived.Test.YthefknoicelhaaaGreatDoorFEJ
import Derived.Test.YthefknoicelhaaaGreatDoorFZK
import Derived.Test.YthefknoicelhaaaGreatDoorFWC
import Derived.Test.YthefknoicelhaaaGreatDoorFWD
import Derived.Test.YthefknoicelhaaaGreatDoorFWE
import Derived.Test.YthefknoicelhaaaGreatDoorFWF
import Derived.Test.YthefknoicelhaaaGreatDoorFYQ
import Derived.Test.YthefknoicelhaaaGreatDoorFWH
import Derived.Test.YthefknoicelhaaaGreatDoorFWV
import Derived.Test.YthefknoicelhaaaGreatDoorRWL
import Derived.Test.YthefknoicelhaaaGreatDoorRWO
import Derived.Test.YthefknoicelhaaaGreatDoorRWR
import Derived.Test.YthefknoicelhaaaGreatDoorRWS
import Derived.Test.YthefknoicelhaaaGreatDoorRZP
import Derived.Test.YthefknoicelhaaaGreatDoorFYA
import Derived.Test.YthefknoicelhaaaGreatDoorFZL
import Derived.Test.YthefknoicelhaaaGreatDoorRZR
import Derived.Test.YthefknoicelhaaaGreatDoorFZM
set_option maxRecDepth 100000
set_option maxHeartbeats 40000000
namespace Go.Proofs.YthefknoicelhaaaGreatDoor.Se
open Go.ChangeShapes Go.WideShapes Go.ChangeAt Go.RowKit Go.ChangeMaps Go.Proofs.Tryz
theorem cd:prog.cellsOf 3=1:=by kernel_rfl
theorem cF {H:Type} {enc:TypeId×Value→H} {W:World} {a0:Option Addr} {len cap:Nat} {d:DataW H} {ps:List MemPlace} (h:DataW.Trod enc prog W 0 (fun _=>true) true 23 (.slice a0 len cap) d ps):ArgI W a0 len cap:=by
 obtain ⟨fuel,hf⟩:=h;rcases open_ints underlying23 underlying3 cd hf with ⟨hcs,_⟩ | ⟨a,len',cap',zs,hcs,_,hl,hm,hz,_,hcell,_⟩
 · simp[Value.cells] at hcs
   obtain ⟨rfl,rfl,rfl⟩:=hcs;exact ⟨Nat.le_refl _,Nat.zero_le _,fun h=>absurd h (by omega)⟩
 · simp[Value.cells] at hcs
   obtain ⟨rfl,rfl,rfl⟩:=hcs;simp only[if_true] at hz;refine ⟨hl,hm,fun h0=>?_⟩;obtain ⟨b,off,spot⟩:=a;have hspot:spot=none:=by simpa [Addr.add] using World.cell?_spot (hcell 0 (by omega))
   subst hspot;have hcell':∀j,j<zs.length→W.cell? ⟨b,off+j,none⟩=some (.int .i64 (zs.getD j 0)):=fun j hj=>by rw[←add_plain];exact hcell j hj
   exact ⟨b,off,rfl,World.block_lt_of_cell? _ _ (hcell' 0 (by omega)),fun t ht=>⟨_,hcell' t (by omega)⟩⟩
namespace Bck
theorem cG (H:Type) (enc:TypeId×Value→H) (W:World) (base:Nat) (args:Array Value) (ds gs:List (DataW H)) (before:List MemPlace)
    (hval:∀(j:Nat) t v,Tryz.f4.params[j]? =some t→args[j]? =some v→Value.okWide prog W .any base t v)
    (hW:DataW.Whole enc prog Tryz.f4.params.toList Rows.substRenameBackSpec.vars false W args.toList ds gs before)
    (hL:laidMet prog lays W) (hsh:W.ShapedOpen prog):
    Calls prog 4 args W fun e W'=>∃v,e=.returned v∧Rows.substRenameBackSpec.post enc prog Tryz.f4 false true false false W args v W':=by
 have hW':=hW;obtain ⟨p,q,hA0,hV,rfl,hfz,hnd⟩:=hW;have hA:DataW.TrodAll enc prog W 0 (fun _=>true) true Tryz.f4.params.toList args.toList ds p:=hA0;rw[Tryz.params4] at hA hval;obtain ⟨v0,vs0,d0,ds0,p0,q0,hargs,rfl,rfl,h0,r0⟩:=trodAll_cons hA;obtain ⟨rfl,rfl,rfl⟩:=trodAll_nil r0;obtain rfl:args=#[v0]:=by cases args;simp_all
 obtain ⟨rfl,rfl⟩:=trodVars_none hV;obtain ⟨a0,len0,cap0,rfl⟩:=okWide_slice underlying23 (hval 0 23 v0 rfl rfl);have h0k:=h0;clear hA0;simp only[List.append_nil] at hW';have hlt:∀x∈p0,x.block<W.heap.size:=fun x hx=>by simpa using hW'.lt x hx
 have harg0:∀(W':World) (sp:Nat→Bool),Below W.heap.size W W'→(∀p∈p0,sp p.block=true)→DataW.Trod enc prog W' 0 sp true 23 (.slice a0 len0 cap0) d0 p0:=
  fun W' sp hn hsp=>WideElems.Trod_stays (P:=prog) lm_laidOut (by kernel_rfl) (of_decide_eq_true (by kernel_rfl)) h0k (fun x hx=>hn.same (hlt x hx)) hsp
 refine (cE a0 len0 cap0 W (env_of hsh hL) (cF h0k)).mono fun e W' ⟨he,hg⟩=>?_
 subst he
 exact ⟨_,rfl,post_fresh (pa:=p0) (pv:=[]) hW' (fun _ _ _=>trodAll_cons_mk (shut_bool underlying4 _) trodAll_mk0) (fun sp hsp=>by
     have t:=trodAll_cons_mk (harg0 W' sp hg (fun p hp=>hsp p hp)) trodAll_mk0;rw[show p0++[]=p0 by simp] at t
     exact t) (fun _ _=>rfl) (by simp)
  hg (ok_one (by kernel_rfl) rfl (okWide_bool_mk underlying4 _))⟩
theorem cH (os:Os):laidMet prog Rows.substRenameBackRow.laid ((World.laidAll prog os lays).forCall (fun _ _=>0) ⟨#[],#[.slice none 0 0],[]⟩).memory:=
 laidMet_laidAll (laid:=lays) _ (by kernel_rfl) (by kernel_rfl)
theorem dr (os:Os) {H:Type} (enc:TypeId×Value→H):∃places,DataW.whole enc prog ((World.laidAll prog os lays).forCall (fun _ _=>0) ⟨#[],#[.slice none 0 0],[]⟩).memory Tryz.f4.params.toList Rows.substRenameBackSpec.vars false #[Value.slice none 0 0].toList 8=some ([.nil],[],places):=
 ⟨[],by kernel_rfl⟩
theorem dl (os:Os):((World.laidAll prog os lays).forCall (fun _ _=>0) ⟨#[],#[.slice none 0 0],[]⟩).Shaped prog:=World.shaped_of_ZipB (by kernel_rfl) (by kernel_rfl)
theorem dS (os:Os):Input.okWideB prog ((World.laidAll prog os lays).forCall (fun _ _=>0) ⟨#[],#[.slice none 0 0],[]⟩) 4 ⟨#[],#[.slice none 0 0],[]⟩=true:=by kernel_rfl
theorem lifted (os:Os) (started:os.Started) (H:Type) (enc:TypeId×Value→H) (F:Stop.Interp):
    ReturnsInHanded {} Tryz.checked os 4 .any ((OpenSpec.ofChange Rows.substRenameBackSpec).preRow enc prog Tryz.f4 Rows.substRenameBackRow.domain false Rows.substRenameBackRow.laid) (((OpenSpec.ofChange Rows.substRenameBackSpec).at F).post enc prog Tryz.f4 false true false false):=by
 obtain ⟨places,hx⟩:=dr os enc
 refine returnsInHanded_of_row (C:=Tryz.checked) (s:=OpenSpec.ofChange Rows.substRenameBackSpec) own started (by kernel_rfl) func4
  (witness_zip (enc:=enc) (C:=Tryz.checked) (World.laidAll prog os lays) #[.slice none 0 0] (World.laidAll_os _ _ _) (dl os) (dS os)
    (OpenSpec.preRow_of_cond 8 hx (by kernel_rfl) (fun k hk=>by cases hk) (by kernel_rfl) (cH os))) ?_
 intro W base args ds gs before hval hW _ _ _ hL hsh _;exact cG H enc W base args ds gs before hval hW hL hsh
theorem bj:prog.plainKeys=Rows.substRenameBackRow.plainKeys:=by kernel_rfl
theorem ce:prog.liftsFinal=Rows.substRenameBackRow.lifted:=by kernel_rfl
theorem dm:prog.make=some Rows.substRenameBackRow.make:=by kernel_rfl
theorem bU:(Rows.substRenameBackRow.inPlace==prog.inPlace 4)=true:=by kernel_rfl
theorem aU:(Rows.substRenameBackRow.unfollowed==prog.unfollowed 4)=true:=by kernel_rfl
theorem bF:(Rows.substRenameBackRow.recurses==prog.recurses 4)=true:=by kernel_rfl
theorem cI:(Rows.substRenameBackRow.named==prog.varsNamed 4)=true:=by kernel_rfl
theorem dT:joinedFacts prog 4 Tryz.f4 Rows.substRenameBackSpec Rows.substRenameBackRow=true:=by
 unfold joinedFacts;rw[lm_laidOut,lm_maps,bj,lm_heard,lm_mayEnter,ce,dm,bU,aU,bF,cI]
 kernel_rfl
theorem d5:Rows.SubstRenameBackSaid:=
 OpenClaim.holds_of_cond 4 Tryz.f4 rfl rfl rfl rfl rfl rfl rfl ⟨rfl,rfl,rfl,rfl,rfl⟩ rfl rfl rfl rfl rfl (by kernel_rfl) func4 dT
  (of_decide_eq_true (by kernel_rfl)) (by unfold Func.isWrapper;first | (rw[if_pos (by decide+kernel)];kernel_rfl) | (rw[if_neg (by decide+kernel)];exact ⟨rfl,rfl⟩))
  (fun os started H enc _ F=>by rw[OpenClaim.pre_eq_preRow];exact lifted os started H enc F)
theorem b7 (f:FuncId) (fn:Func) (hf:Tryz.pinned.checked.prog.funcNamed Rows.substRenameBackRow.func=some f) (hfn:Tryz.pinned.checked.prog.funcs[f]? =some fn):
    true=Tryz.pinned.checked.prog.looks []∧∀(j:Nat) t,fn.params[j]? =some t→Tryz.pinned.checked.prog.wantsStandIn t=false:=by
 obtain rfl:f=4:=Option.some.inj ((show prog.funcNamed Rows.substRenameBackRow.func=some 4 by kernel_rfl).symm.trans hf) |>.symm;obtain rfl:fn=Tryz.f4:=(Option.some.inj (func4.symm.trans hfn)).symm;refine ⟨by kernel_rfl,fun j t ht=>?_⟩;rw[Tryz.params4] at ht;have hm:=Array.mem_of_getElem? ht;simp only[List.mem_toArray,List.mem_cons,List.not_mem_nil,or_false] at hm;rcases hm with rfl
 · exact (show prog.wantsStandIn 23=false by kernel_rfl)
theorem card:Rows.SubstRenameBackCardSaid:=
 Claim7.holds_tied_plain_at .later [] _ _ _ _ d5 (fun _ h=>by cases h) (by kernel_rfl) (fun _ h=>by cases h) substRenameBack_row_tie rfl ⟨rfl,rfl⟩ (by kernel_rfl) rfl b7 (by kernel_rfl)
end Bck
end Go.Proofs.YthefknoicelhaaaGreatDoor.Se

import Derived.Test.YtapdbeaoakcjeaaGreatDoorENV
import Derived.Test.YtapdbeaoakcjeaaGreatDoorCards
import Derived.Test.YtapdbeaoakcjeaaGreatDoorTie
import Derived.WalkKit
import Derived.ProofKit
import Derived.OpenShut
import Derived.Lay
import Derived.Deep.DeepHandedRow
import Derived.LaidLaws
import Derived.Lib.LaidTab
import Derived.Stop.LaidErr
import Derived.ChangeMaps5
import Derived.ChangeSlices
import Derived.Carry
import Derived.Shelf.Vars
import Derived.Test.YtapdbeaoakcjeaaGreatDoorEYU
import Derived.Deep.Slices
set_option maxRecDepth 100000
set_option maxHeartbeats 40000000
namespace Go.Proofs.YtapdbeaoakcjeaaGreatDoor
open Go.ChangeShapes Go.WideShapes Go.ChangeAt Go.RowKit
theorem own:ownKnob Tryz.prog.godebug=none:=by kernel_rfl
theorem rY {H:Type} {enc:TypeId×Value→H} {P:Program} {f:Func} {s:ChangeSpec} {apart fresh handsOn again:Bool} {W W1:World} {args:Array Value} {v:Value} {ds gs:List (DataW H)} {old pa pv:List MemPlace}
    (whole:DataW.Whole enc P f.params.toList s.vars apart W args.toList ds gs old)
    (res:∀(b:Nat) (sp:Nat→Bool) (hd:Bool),DataW.TrodAll enc P W1 b sp hd f.resultTypes.toList (v.resultList f.resultTypes.size) (s.fn H (ds++gs)).results [])
    (arg:∀sp:Nat→Bool,(∀p∈old,sp p.block=true)→DataW.TrodAll enc P W1 0 sp true f.params.toList args.toList (s.fn H (ds++gs)).args pa)
    (var:∀sp:Nat→Bool,(∀p∈old,sp p.block=true)→DataW.TrodVars enc P W1 sp s.vars (s.fn H (ds++gs)).vars pv)
    (split:old=pa++pv) (far:Below W.heap.size W W1)
    (okay:∀(j:Nat) (t:TypeId) (r:Value),f.resultTypes[j]? =some t→(v.resultList f.resultTypes.size)[j]? =some r→Value.okWide P W1 .any 0 t r):
    s.post enc P f apart fresh handsOn again W args v W1:=by
 have below:∀p∈old,p.block<W.heap.size:=fun p hp=>whole.lt p hp
 have seen:∀p∈old,(fun b=>decide (b<W.heap.size)) p.block=true:=fun p hp=>decide_eq_true (below p hp)
 have zero:∀b off,MemPlace.cell b off∈pa++pv→W1.frozen? ⟨b,off,none⟩=false:=by
  obtain ⟨_,_,_,_,_,hz,_⟩:=whole;intro b off hp;rw[←split] at hp;rw[far.frozen (below _ hp)];exact hz b off hp
 have nodup:apart=true→(pa++pv).Nodup:=by
  obtain ⟨_,_,_,_,_,_,hn⟩:=whole;intro ha;rw[←split];exact hn ha
 refine ⟨ds,gs,old,[],pa,pv,whole,res _ _ _,arg _ seen,var _ seen,World.keptBut_mono (fun p hp=>⟨hp,?_⟩) (far.frame (·∈old)),fun _=>⟨okay,_,_,([]++pa)++pv,⟨[]++pa,pv,trodAll_append (arg _ (fun _ _=>rfl)) (res _ _ _),var _ (fun _ _=>rfl),rfl,zero,nodup⟩,?_⟩⟩
 · rw[split,List.mem_append] at hp;exact Or.inr hp
 · intro p hp _;rw[split];exact hp
theorem rZ:∀w:World,w.ShapedOpen Tryz.prog→∃m,w.cell? ⟨0,0,none⟩=some (.int .i64 m):=fun _ h=>
 Go.Proofs.cell_of_shapedOpen_int (zero:=#[.int .i64 0]) (t:=3) h (of_decide_eq_true (by kernel_rfl)) (by kernel_rfl) rfl (by kernel_rfl) (by kernel_rfl) Tryz.underlying3
def oX:List (String×DataW Unit):=[("math/bits.deBruijn32tab",Rows.laid_math_bits_deBruijn32tab),("math/bits.deBruijn64tab",Rows.laid_math_bits_deBruijn64tab),("internal/strconv.uint64pow10",Rows.laid_internal_strconv_uint64pow10),("unicode/utf8.acceptRanges",Rows.laid_unicode_utf8_acceptRanges),("strconv.ErrRange",Rows.laid_strconv_ErrRange),("strconv.ErrSyntax",Rows.laid_strconv_ErrSyntax),("unicode/utf8.first",Rows.laid_unicode_utf8_first)]
theorem zj {W:World} (hsh:W.ShapedOpen Tryz.prog) (hL:laidMet Tryz.prog oX W):Env W:=by
 obtain ⟨m,hM⟩:=rZ W hsh;have e:(Rows.laid_internal_strconv_uint64pow10:DataW Unit)=Lib.tabData .u64 Lib.pow10Tab:=by kernel_rfl
 have hL3:=laidMet.tail (laidMet.tail hL);rw[e] at hL3;exact ⟨World.block_lt_of_cell? W _ hM,⟨m,hM⟩,Lib.tabIs_of_head (g:=5) (t:=278) (e:=234) (n:=20) (by kernel_rfl) (by kernel_rfl) Tryz.underlying278 Tryz.underlying234 (by kernel_rfl) (by kernel_rfl) hL3⟩
theorem qC {H:Type} {enc:TypeId×Value→H} {C:Checked} {os:Os} {f:FuncId} {fn:Func} {s:OpenSpec} {conds:List PathCond} {apart:Bool} {laid:List (String×DataW Unit)} (w0:World) (args:Array Value) (hos:w0.os=os)
    (hv:(w0.forCall (fun _ _=>0) ⟨#[],args,[]⟩).Shaped C.prog)
    (hok:Input.okWideB C.prog (w0.forCall (fun _ _=>0) ⟨#[],args,[]⟩) f ⟨#[],args,[]⟩=true)
    (hrow:s.preRow enc C.prog fn conds apart laid (w0.forCall (fun _ _=>0) ⟨#[],args,[]⟩).memory args):
    ∃(w:World) (tape:Tape) (i:Input),w.os=os∧(w.forCall tape i).Shaped C.prog∧i.vars=[]∧Input.okWide C.prog (w.forCall tape i) .any w.heap.size f i∧
     s.preRow enc C.prog fn conds apart laid (w.forCall tape i).memory i.args∧({ modest:=false }:Assume).holds C.prog (lone (Frame.enter C.prog f i.args .normal) [] (w.forCall tape i)):=
 ⟨w0,fun _ _=>0,⟨#[],args,[]⟩,hos,hv,(Input.okWide_of_okWideB (base:=0) hok).1,(Input.okWide_of_okWideB hok).2,hrow,by
   simp only[Assume.holds]
   exact ⟨by simp,by simp,fun _=>Modest.zero,by simp,by simp⟩⟩
theorem mB:laidOutB Tryz.prog=true:=by kernel_rfl
theorem yf:mapsRowed Tryz.prog=true:=by kernel_rfl
theorem lm_plainKeys:Tryz.prog.plainKeys=Rows.termCopiesRow.plainKeys:=by kernel_rfl
theorem wM:Tryz.prog.stopsHeard=true:=by kernel_rfl
theorem qD:Tryz.prog.mayEnter=true:=by kernel_rfl
theorem lm_lifted:Tryz.prog.liftsFinal=Rows.termCopiesRow.lifted:=by kernel_rfl
theorem lm_make:Tryz.prog.make=some Rows.termCopiesRow.make:=by kernel_rfl
end Go.Proofs.YtapdbeaoakcjeaaGreatDoor
namespace Go.Proofs.YtapdbeaoakcjeaaGreatDoor.Se
open Go.ChangeShapes Go.WideShapes Go.ChangeAt Go.RowKit Go.ChangeMaps
theorem uT:Tryz.prog.cellsOf 3=1:=by kernel_rfl
theorem xh {H:Type} {enc:TypeId×Value→H} {W:World} {a0:Option Addr} {len cap:Nat} {d:DataW H} {ps:List MemPlace} (h:DataW.Trod enc Tryz.prog W 0 (fun _=>true) true 23 (.slice a0 len cap) d ps):ArgI W a0 len cap:=by
 obtain ⟨fuel,hf⟩:=h;rcases open_ints Tryz.underlying23 Tryz.underlying3 uT hf with ⟨hcs,_⟩ | ⟨a,len',cap',zs,hcs,_,hl,hm,hz,_,hcell,_⟩
 · simp[Value.cells] at hcs
   obtain ⟨rfl,rfl,rfl⟩:=hcs;exact ⟨ag _,aE _,fun h=>absurd h (by omega)⟩
 · simp[Value.cells] at hcs
   obtain ⟨rfl,rfl,rfl⟩:=hcs;simp only[if_true] at hz;refine ⟨hl,hm,fun h0=>?_⟩;obtain ⟨b,off,spot⟩:=a;have hspot:spot=none:=by simpa [Addr.add] using World.cell?_spot (hcell 0 (by omega))
   subst hspot;have hcell':∀j,j<zs.length→W.cell? ⟨b,off+j,none⟩=some (.int .i64 (zs.getD j 0)):=fun j hj=>by rw[←add_plain];exact hcell j hj
   exact ⟨b,off,rfl,World.block_lt_of_cell? _ _ (hcell' 0 (by omega)),fun t ht=>⟨_,hcell' t (by omega)⟩⟩
namespace Copies
theorem xi (H:Type) (enc:TypeId×Value→H) (W:World) (base:Nat) (args:Array Value) (ds gs:List (DataW H)) (before:List MemPlace)
    (hval:∀(j:Nat) t v,Tryz.f5.params[j]? =some t→args[j]? =some v→Value.okWide Tryz.prog W .any base t v)
    (hW:DataW.Whole enc Tryz.prog Tryz.f5.params.toList Rows.termCopiesSpec.vars false W args.toList ds gs before)
    (hL:laidMet Tryz.prog oX W) (hsh:W.ShapedOpen Tryz.prog):
    Calls Tryz.prog 5 args W fun e W'=>∃v,e=.returned v∧Rows.termCopiesSpec.post enc Tryz.prog Tryz.f5 false true false false W args v W':=by
 have hW':=hW;obtain ⟨p,q,hA0,hV,rfl,hfz,hnd⟩:=hW;have hA:DataW.TrodAll enc Tryz.prog W 0 (fun _=>true) true Tryz.f5.params.toList args.toList ds p:=hA0;rw[Tryz.params5] at hA hval;obtain ⟨v0,vs0,d0,ds0,p0,q0,hargs,rfl,rfl,h0,r0⟩:=trodAll_cons hA;obtain ⟨rfl,rfl,rfl⟩:=trodAll_nil r0;obtain rfl:args=#[v0]:=by cases args;simp_all
 obtain ⟨rfl,rfl⟩:=trodVars_none hV;obtain ⟨a0,uC,cap0,rfl⟩:=okWide_slice Tryz.underlying23 (hval 0 23 v0 rfl rfl);have h0k:=h0;clear hA0;simp only[List.append_nil] at hW';have hlt:∀x∈p0,x.block<W.heap.size:=fun x hx=>by simpa using hW'.lt x hx
 have harg0:∀(W':World) (sp:Nat→Bool),Below W.heap.size W W'→(∀p∈p0,sp p.block=true)→DataW.Trod enc Tryz.prog W' 0 sp true 23 (.slice a0 uC cap0) d0 p0:=
  fun W' sp hn hsp=>WideElems.Trod_stays (P:=Tryz.prog) mB (by kernel_rfl) (of_decide_eq_true (by kernel_rfl)) h0k (fun x hx=>hn.same (hlt x hx)) hsp
 refine (sn a0 uC cap0 W (zj hsh hL) (xh h0k)).mono fun e W' ⟨he,hg⟩=>?_
 subst he
 exact ⟨_,rfl,rY (pa:=p0) (pv:=[]) hW' (fun _ _ _=>trodAll_cons_mk (shut_bool Tryz.underlying4 _) trodAll_mk0) (fun sp hsp=>by
     have t:=trodAll_cons_mk (harg0 W' sp hg (fun p hp=>hsp p hp)) trodAll_mk0;rw[show p0++[]=p0 by simp] at t
     exact t) (fun _ _=>rfl) (by simp)
  hg (ok_one (by kernel_rfl) rfl (okWide_bool_mk Tryz.underlying4 _))⟩
theorem xj (os:Os):laidMet Tryz.prog Rows.termCopiesRow.laid ((World.laidAll Tryz.prog os oX).forCall (fun _ _=>0) ⟨#[],#[.slice none 0 0],[]⟩).memory:=
 laidMet_laidAll (laid:=oX) _ (by kernel_rfl) (by kernel_rfl)
theorem gK (os:Os) {H:Type} (enc:TypeId×Value→H):∃places,DataW.whole enc Tryz.prog ((World.laidAll Tryz.prog os oX).forCall (fun _ _=>0) ⟨#[],#[.slice none 0 0],[]⟩).memory Tryz.f5.params.toList Rows.termCopiesSpec.vars false #[Value.slice none 0 0].toList 8=some ([.nil],[],places):=
 ⟨[],by kernel_rfl⟩
theorem yw (os:Os):((World.laidAll Tryz.prog os oX).forCall (fun _ _=>0) ⟨#[],#[.slice none 0 0],[]⟩).Shaped Tryz.prog:=World.shaped_of_ZipB (by kernel_rfl) (by kernel_rfl)
theorem z9 (os:Os):Input.okWideB Tryz.prog ((World.laidAll Tryz.prog os oX).forCall (fun _ _=>0) ⟨#[],#[.slice none 0 0],[]⟩) 5 ⟨#[],#[.slice none 0 0],[]⟩=true:=by kernel_rfl
theorem lifted (os:Os) (started:os.Started) (H:Type) (enc:TypeId×Value→H) (F:Stop.Interp):
    ReturnsInHanded {} Tryz.checked os 5 .any ((OpenSpec.ofChange Rows.termCopiesSpec).preRow enc Tryz.prog Tryz.f5 Rows.termCopiesRow.domain false Rows.termCopiesRow.laid) (((OpenSpec.ofChange Rows.termCopiesSpec).at F).post enc Tryz.prog Tryz.f5 false true false false):=by
 obtain ⟨places,hx⟩:=gK os enc
 refine returnsInHanded_of_row (C:=Tryz.checked) (s:=OpenSpec.ofChange Rows.termCopiesSpec) own started (by kernel_rfl) Tryz.func5
  (qC (enc:=enc) (C:=Tryz.checked) (World.laidAll Tryz.prog os oX) #[.slice none 0 0] (World.laidAll_os _ _ _) (yw os) (z9 os)
    (OpenSpec.preRow_of_cond 8 hx (by kernel_rfl) (fun k hk=>by cases hk) (by kernel_rfl) (xj os))) ?_
 intro W base args ds gs before hval hW _ _ _ hL hsh _;exact xi H enc W base args ds gs before hval hW hL hsh
theorem lm_plainKeys:Tryz.prog.plainKeys=Rows.termCopiesRow.plainKeys:=by kernel_rfl
theorem lm_lifted:Tryz.prog.liftsFinal=Rows.termCopiesRow.lifted:=by kernel_rfl
theorem lm_make:Tryz.prog.make=some Rows.termCopiesRow.make:=by kernel_rfl
theorem su:(Rows.termCopiesRow.inPlace==Tryz.prog.inPlace 5)=true:=by kernel_rfl
theorem mV:(Rows.termCopiesRow.unfollowed==Tryz.prog.unfollowed 5)=true:=by kernel_rfl
theorem qR:(Rows.termCopiesRow.recurses==Tryz.prog.recurses 5)=true:=by kernel_rfl
theorem xk:(Rows.termCopiesRow.named==Tryz.prog.varsNamed 5)=true:=by kernel_rfl
theorem xl:joinedFacts Tryz.prog 5 Tryz.f5 Rows.termCopiesSpec Rows.termCopiesRow=true:=by
 unfold joinedFacts;rw[mB,yf,lm_plainKeys,wM,qD,lm_lifted,lm_make,su,mV,qR,xk]
 kernel_rfl
theorem An:Rows.TermCopiesSaid:=
 OpenClaim.holds_of_cond 5 Tryz.f5 rfl rfl rfl rfl rfl rfl rfl ⟨rfl,rfl,rfl,rfl,rfl⟩ rfl rfl rfl rfl rfl (by kernel_rfl) Tryz.func5 xl
  (of_decide_eq_true (by kernel_rfl)) (by unfold Func.isWrapper;first | (rw[if_pos (by decide+kernel)];kernel_rfl) | (rw[if_neg (by decide+kernel)];exact ⟨rfl,rfl⟩))
  (fun os started H enc _ F=>by rw[OpenClaim.pre_eq_preRow];exact lifted os started H enc F)
theorem tC (f:FuncId) (fn:Func) (hf:Tryz.pinned.checked.prog.funcNamed Rows.termCopiesRow.func=some f) (hfn:Tryz.pinned.checked.prog.funcs[f]? =some fn):
    true=Tryz.pinned.checked.prog.looks []∧∀(j:Nat) t,fn.params[j]? =some t→Tryz.pinned.checked.prog.wantsStandIn t=false:=by
 obtain rfl:f=5:=aG ((show Tryz.prog.funcNamed Rows.termCopiesRow.func=some 5 by kernel_rfl).symm.trans hf) |>.symm;obtain rfl:fn=Tryz.f5:=(aG (Tryz.func5.symm.trans hfn)).symm;refine ⟨by kernel_rfl,fun j t ht=>?_⟩;rw[Tryz.params5] at ht;have hm:=Array.mem_of_getElem? ht;simp only[List.mem_toArray,List.mem_cons,List.not_mem_nil,or_false] at hm;rcases hm with rfl
 · exact (show Tryz.prog.wantsStandIn 23=false by kernel_rfl)
theorem card:Rows.TermCopiesCardSaid:=
 Claim7.holds_tied_plain_at .later [] _ _ _ _ An (fun _ h=>by cases h) (by kernel_rfl) (fun _ h=>by cases h) termCopies_row_tie rfl ⟨rfl,rfl⟩ (by kernel_rfl) rfl tC (by kernel_rfl)
end Copies
end Go.Proofs.YtapdbeaoakcjeaaGreatDoor.Se

import Derived.Test.YtpkfnnkbfphfbaaGreatDoorHNV
import Derived.Test.YtpkfnnkbfphfbaaGreatDoorCards
import Derived.Test.YtpkfnnkbfphfbaaGreatDoorTie
import Derived.WalkKit
import Derived.ProofKit
import Derived.OpenShut
import Derived.Lay
import Derived.Deep.DeepHandedRow
import Derived.LaidLaws
import Derived.Lib.LaidTab
import Derived.Stop.LaidErr
import Derived.ChangeMaps5
import Derived.ChangeSlices
import Derived.Shelf.Vars
import Derived.Carry
set_option maxRecDepth 100000
set_option maxHeartbeats 40000000
namespace Go.Proofs.YtpkfnnkbfphfbaaGreatDoor
open Go.ChangeShapes Go.WideShapes Go.ChangeAt Go.RowKit Go.Proofs.Tryz
theorem own:ownKnob prog.godebug=none:=by kernel_rfl
theorem tV {H:Type} {enc:TypeId×Value→H} {P:Program} {f:Func} {s:ChangeSpec} {apart fresh handsOn again:Bool} {W W1:World} {args:Array Value} {v:Value} {ds gs:List (DataW H)} {old pa pv:List MemPlace}
    (whole:DataW.Whole enc P f.params.toList s.vars apart W args.toList ds gs old)
    (res:∀(b:Nat) (sp:Nat→Bool) (hd:Bool),DataW.TrodAll enc P W1 b sp hd f.resultTypes.toList (v.resultList f.resultTypes.size) (s.fn H (ds++gs)).results [])
    (arg:∀sp:Nat→Bool,(∀p∈old,sp p.block=true)→DataW.TrodAll enc P W1 0 sp true f.params.toList args.toList (s.fn H (ds++gs)).args pa)
    (var:∀sp:Nat→Bool,(∀p∈old,sp p.block=true)→DataW.TrodVars enc P W1 sp s.vars (s.fn H (ds++gs)).vars pv)
    (split:old=pa++pv) (far:Below W.heap.size W W1)
    (okay:∀(j:Nat) (t:TypeId) (r:Value),f.resultTypes[j]? =some t→(v.resultList f.resultTypes.size)[j]? =some r→Value.okWide P W1 .any 0 t r):
    s.post enc P f apart fresh handsOn again W args v W1:=by
 have below:∀p∈old,p.block<W.heap.size:=fun p hp=>whole.lt p hp
 have seen:∀p∈old,(fun b=>decide (b<W.heap.size)) p.block=true:=fun p hp=>aH (below p hp)
 have zero:∀b off,MemPlace.cell b off∈pa++pv→W1.frozen? ⟨b,off,none⟩=false:=by
  obtain ⟨_,_,_,_,_,hz,_⟩:=whole;intro b off hp;rw[←split] at hp;rw[far.frozen (below _ hp)];exact hz b off hp
 have nodup:apart=true→(pa++pv).Nodup:=by
  obtain ⟨_,_,_,_,_,_,hn⟩:=whole;intro ha;rw[←split];exact hn ha
 refine ⟨ds,gs,old,[],pa,pv,whole,res _ _ _,arg _ seen,var _ seen,World.keptBut_mono (fun p hp=>⟨hp,?_⟩) (far.frame (·∈old)),fun _=>⟨okay,_,_,([]++pa)++pv,⟨[]++pa,pv,trodAll_append (arg _ (fun _ _=>rfl)) (res _ _ _),var _ (fun _ _=>rfl),rfl,zero,nodup⟩,?_⟩⟩
 · rw[split,List.mem_append] at hp;exact Or.inr hp
 · intro p hp _;rw[split];exact hp
theorem tW:∀w:World,w.ShapedOpen prog→∃m,w.cell? ⟨0,0,none⟩=some (.int .i64 m):=fun _ h=>
 Go.Proofs.cell_of_shapedOpen_int (zero:=#[.int .i64 0]) (t:=3) h (of_decide_eq_true (by kernel_rfl)) (by kernel_rfl) rfl (by kernel_rfl) (by kernel_rfl) underlying3
def pS:List (String×DataW Unit):=[("math/bits.deBruijn32tab",Rows.laid_math_bits_deBruijn32tab),("math/bits.deBruijn64tab",Rows.laid_math_bits_deBruijn64tab),("internal/strconv.uint64pow10",Rows.laid_internal_strconv_uint64pow10),("strconv.ErrRange",Rows.laid_strconv_ErrRange),("strconv.ErrSyntax",Rows.laid_strconv_ErrSyntax)]
theorem A3 {W:World} (hsh:W.ShapedOpen prog) (hL:laidMet prog pS W):Env W:=by
 obtain ⟨m,hM⟩:=tW W hsh;have e:(Rows.laid_internal_strconv_uint64pow10:DataW Unit)=Lib.tabData .u64 Lib.pow10Tab:=by kernel_rfl
 have hL3:=laidMet.tail (laidMet.tail hL);rw[e] at hL3;exact ⟨World.block_lt_of_cell? W _ hM,⟨m,hM⟩,Lib.tabIs_of_head (g:=3) (t:=245) (e:=200) (n:=20) (by kernel_rfl) (by kernel_rfl) underlying245 underlying200 (by kernel_rfl) (by kernel_rfl) hL3⟩
theorem rP {H:Type} {enc:TypeId×Value→H} {C:Checked} {os:Os} {f:FuncId} {fn:Func} {s:OpenSpec} {conds:List PathCond} {apart:Bool} {laid:List (String×DataW Unit)} (w0:World) (args:Array Value) (hos:w0.os=os)
    (hv:(w0.forCall (fun _ _=>0) ⟨#[],args,[]⟩).Shaped C.prog)
    (hok:Input.okWideB C.prog (w0.forCall (fun _ _=>0) ⟨#[],args,[]⟩) f ⟨#[],args,[]⟩=true)
    (hrow:s.preRow enc C.prog fn conds apart laid (w0.forCall (fun _ _=>0) ⟨#[],args,[]⟩).memory args):
    ∃(w:World) (tape:Tape) (i:Input),w.os=os∧(w.forCall tape i).Shaped C.prog∧i.vars=[]∧Input.okWide C.prog (w.forCall tape i) .any w.heap.size f i∧
     s.preRow enc C.prog fn conds apart laid (w.forCall tape i).memory i.args∧({ modest:=false }:Assume).holds C.prog (lone (Frame.enter C.prog f i.args .normal) [] (w.forCall tape i)):=
 ⟨w0,fun _ _=>0,⟨#[],args,[]⟩,hos,hv,(Input.okWide_of_okWideB (base:=0) hok).1,(Input.okWide_of_okWideB hok).2,hrow,by
   simp only[Assume.holds]
   exact ⟨by simp,by simp,fun _=>Modest.zero,by simp,by simp⟩⟩
theorem jG:laidOutB prog=true:=by kernel_rfl
theorem zP:mapsRowed prog=true:=by kernel_rfl
theorem lm_plainKeys:prog.plainKeys=Rows.valueShapeRow.plainKeys:=by kernel_rfl
theorem yt:prog.stopsHeard=true:=by kernel_rfl
theorem rQ:prog.mayEnter=true:=by kernel_rfl
theorem lm_lifted:prog.liftsFinal=Rows.valueShapeRow.lifted:=by kernel_rfl
theorem lm_make:prog.make=some Rows.valueShapeRow.make:=by kernel_rfl
end Go.Proofs.YtpkfnnkbfphfbaaGreatDoor

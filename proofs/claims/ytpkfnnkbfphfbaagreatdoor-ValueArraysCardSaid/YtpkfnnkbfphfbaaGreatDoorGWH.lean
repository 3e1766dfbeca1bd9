/- The reference's arity and result at any row of sorts. -/
import Derived.Test.YtpkfnnkbfphfbaaGreatDoorGWD
import Derived.Test.YtpkfnnkbfphfbaaGreatDoorGEB
import Derived.Test.YtpkfnnkbfphfbaaGreatDoorGNL
import Derived.Test.YtpkfnnkbfphfbaaGreatDoorGUI
set_option maxRecDepth 100000
set_option maxHeartbeats 40000000
namespace Go.Proofs.YtpkfnnkbfphfbaaGreatDoor.Se
open Go.RowKit Nmx

end Go.Proofs.YtpkfnnkbfphfbaaGreatDoor.Se
/- The reference's tree over a term's node. -/
namespace Go.Proofs.YtpkfnnkbfphfbaaGreatDoor.Se
open Go.RowKit Nmx

theorem WE.step {q d:Nat} {rest:List Nd} {s:Int} {tl:List Int} {Er:List Nat} {Sr:List Int} (h:WE q d rest (s::tl) Er Sr):∃d' x ks ss rest' Ek Sk Er' Sr',d=d'+1∧rest=x::(ks++rest')∧WE (q+1) d' ks ss Ek Sk∧NodeOk x ks ss s∧WE (q+1+ks.length) (d'+1) rest' tl Er' Sr':=by
  cases h with
  | cons hk hn hr=>exact ⟨_,_,_,_,_,_,_,_,_,rfl,rfl,hk,hn,hr⟩
end Go.Proofs.YtpkfnnkbfphfbaaGreatDoor.Se
/- The reference's childSorts and funcAt at the root of a term. -/
namespace Go.Proofs.YtpkfnnkbfphfbaaGreatDoor.Se
open Go.RowKit Nmx

end Go.Proofs.YtpkfnnkbfphfbaaGreatDoor.Se
/- The reference's test that names are used in one way, where a function may stand at the root. -/
namespace Go.Proofs.YtpkfnnkbfphfbaaGreatDoor.Se
open Go.RowKit Nmx

end Go.Proofs.YtpkfnnkbfphfbaaGreatDoor.Se
/- The reference's test that names are used in one way, where there are no functions. -/
namespace Go.Proofs.YtpkfnnkbfphfbaaGreatDoor.Se
open Go.RowKit Nmx

end Go.Proofs.YtpkfnnkbfphfbaaGreatDoor.Se
/- The reference's SortOf, ValidTerm, Join, Num1, Bool1. -/
namespace Go.Proofs.YtpkfnnkbfphfbaaGreatDoor.Se
open Go.RowKit Nmx

section
def OnePost (x:Nd) (w:World) (e:Ending) (w':World):Prop:=∃g,e=.returned (.slice (some ⟨g,0,none⟩) 1 1)∧NodesAt w' g [x]∧g<w'.heap.size∧w.heap.size≤g∧Below w.heap.size w w'
theorem OnePost.of (x:Nd) (w:World):OnePost x w (.returned (.slice (some ⟨w.heap.size,0,none⟩) 1 1)) (w.alloc (.cells #[.int .i64 x.op,.int .i64 x.sort,.string x.name,.string x.num,.int .i64 x.kids] 57)):=by
  refine ⟨_,rfl,?_,by simp,Nat.le_refl _,alloc_far' w _⟩
  refine flat_nodes fun j hj=>?_
  rw[World.cell?_alloc_at _ _ _ _ rfl]
  obtain ⟨op,sort,name,num,kids⟩:=x
  show (#[Value.int .i64 op,.int .i64 sort,.string name,.string num,.int .i64 kids]:Array Value)[j]? =[Value.int .i64 op,.int .i64 sort,.string name,.string num,.int .i64 kids][j]?
  rw[List.getElem?_toArray]
theorem num1_any (sort:Int) (num:ByteArray) (w:World):Calls Tryz.prog 37 #[.int .i64 sort,.string num] w (OnePost ⟨3,sort,⟨#[]⟩,num,0⟩ w):=by
  have HO:=Lib.hid (OnePost.of ⟨3,sort,⟨#[]⟩,num,0⟩ w)
  go_enter Tryz.func37,Tryz.ntmps37
  go_wp2
  go_ret
  exact HO.out
def JoinPost (w:World) (x:Nd) (L:List (List Nd)) (e:Ending) (w':World):Prop:=
  ∃g c,e=.returned (.slice (some ⟨g,0,none⟩) (1+L.flatten.length) (1+L.flatten.length+c))∧NodesAt w' g ({ x with kids:=L.length }::L.flatten)∧g<w'.heap.size∧w.heap.size≤g∧Below w.heap.size w w'
theorem row_cap {w:World} {b g n cap z:Nat} {t:TypeId} {xs:List Value} (h:w.ownsRow b t z (.slice (some ⟨g,0,none⟩) n cap) n xs):n≤cap:=by
  obtain ⟨_,h | ⟨_,_,_,hv,_,_,hle,_⟩⟩:=h
  · cases h.1
  · injection hv with _ _ e3;omega
theorem join_any (x:Nd) (ak:Option Addr) (gk ck:Nat) (L:List (List Nd)) (w:World) (hk:Kds w ak gk L) (hs:L.flatten.length≤1000000) (hmx:L.length≤1000000):
    Calls Tryz.prog 36 #[x.val,.slice ak L.length ck] w (JoinPost w x L):=by
  obtain ⟨i0,hi,hz0,hz1,hz2⟩:=info_parts infoNode
  obtain ⟨op,sort,name,num,kids⟩:=x
  have HK:=Lib.hid hk
  have hmono:∀j,(L.take j).flatten.length≤L.flatten.length:=fun j=>by
    have:=congrArg List.length (congrArg List.flatten (List.take_append_drop j L))
    rw[List.flatten_append,List.length_append] at this;omega
  have HMO:=Lib.hid hmono
  obtain ⟨j,hm⟩:∃j,L.length=j:=⟨_,rfl⟩
  have HL:=Lib.hid hm
  unfold Nd.val
  rw[hm]
  rw[hm] at hmx
  have HN2:Hid (NDB w.heap.size w ⟨op,sort,name,num,kids⟩ j (w.alloc (.cells #[.int .i64 op,.int .i64 sort,.string name,.string num,.int .i64 j] 57))):=Lib.hid ⟨heap_alloc_new w _,alloc_far' w _⟩
  have HN3:=Lib.hid (HN2.out.far (alloc_far' (w.alloc (.cells #[.int .i64 op,.int .i64 sort,.string name,.string num,.int .i64 j] 57)) (.cells #[.int .i64 op,.int .i64 sort,.string name,.string num,.int .i64 j] 57)))
  have hsz:(w.alloc (.cells #[.int .i64 op,.int .i64 sort,.string name,.string num,.int .i64 j] 57)).heap.size=w.heap.size+1:=by simp
  have hown:=World.ownsRow_lit (base:=w.heap.size+1) (e:=57) (size:=5) (w.alloc (.cells #[.int .i64 op,.int .i64 sort,.string name,.string num,.int .i64 j] 57)) #[.int .i64 op,.int .i64 sort,.string name,.string num,.int .i64 j] 1 (by omega) (by decide) rfl
  rw[hsz] at hown
  have HR3:Hid (((w.alloc (.cells #[.int .i64 op,.int .i64 sort,.string name,.string num,.int .i64 j] 57)).alloc (.cells #[.int .i64 op,.int .i64 sort,.string name,.string num,.int .i64 j] 57)).ownsRow (w.heap.size+1) 57 5 (.slice (some ⟨w.heap.size+1,0,none⟩) 1 1) 1 (flatN [⟨op,sort,name,num,(j:Int)⟩])):=Lib.hid hown
  have hSS1:w.heap.size<w.heap.size+1:=by omega
  clear hk hm hmono hown hsz HN2
  go_enter Tryz.func36,Tryz.ntmps36
  go_wp2
  go_loopw [5,6] (fun v i wr=>∃(k B c:Nat),k≤j∧i=.int .i64 k∧v=.slice (some ⟨B,0,none⟩) (1+(L.take k).flatten.length) c∧w.heap.size<B∧NDB w.heap.size w ⟨op,sort,name,num,kids⟩ j wr∧wr.ownsRow (w.heap.size+1) 57 5 v (1+(L.take k).flatten.length) (flatN (⟨op,sort,name,num,(j:Int)⟩::(L.take k).flatten))) (fun _ i _=>j-(intOf i).toNat)
  case atStart=>exact ⟨0,_,1,Nat.zero_le _,rfl,rfl,hSS1,HN3.out,HR3.out⟩
  case round=>
    clear HN3 HR3 hSS1
    obtain ⟨k,B,c,hk,rfl,rfl,hSB,hnd,hrow⟩:=hrel
    generalize hSS:w.heap.size=S at *
    have HS:=Lib.hid hSS
    have HN4:=Lib.hid hnd
    have HR4:=Lib.hid hrow
    clear hnd hrow hSS
    have hk0:(0:Int)≤(k:Int):=by omega
    by_cases hlt2:k<j
    · have hlt3:(k:Int)<(j:Int):=by omega
      have hl:k<L.length:=by rw[HL.out];exact hlt2
      obtain rfl:=HK.out.1 (by omega)
      have hKK:=HK.out.far (show Below w.heap.size w wr by rw[HS.out];exact HN4.out.bel)
      obtain ⟨g,c1,cc,hN,hgl⟩:=hKK.2.2 k L[k] (List.getElem?_eq_getElem hl)
      have hnx:1+(L.take (k+1)).flatten.length=(1+(L.take k).flatten.length)+L[k].length:=by rw[take_flat hl,List.length_append];omega
      have hnf:flatN (⟨op,sort,name,num,(j:Int)⟩::(L.take (k+1)).flatten)=flatN (⟨op,sort,name,num,(j:Int)⟩::(L.take k).flatten)++flatN L[k]:=by rw[take_flat hl,←List.cons_append,flatN_app]
      have hle:=HMO.out (k+1)
      have h1:1+(L.take k).flatten.length+L[k].length≤1000001:=by omega
      have HNF:=Lib.hid hnf
      have HNX:=Lib.hid hnx
      have HNN:=Lib.hid (nodes_flat hN)
      have HFL:Hid ((flatN L[k]).length=L[k].length*5):=Lib.hid (flatN_len _)
      have HON:=Lib.hid (nd_one L[k])
      have hSw:=lt_of_heap HN4.out.bx
      have hs1:1≤1+(L.take k).flatten.length:=by omega
      clear hle hnx hnf hN
      generalize flatN (⟨op,sort,name,num,(j:Int)⟩::(L.take k).flatten)=fl0 at *
      generalize flatN L[k]=fl1 at *
      generalize 1+(L.take k).flatten.length=s0 at *
      generalize L[k].length=ln at *
      go_wp2_with (at_builtin;go_loud (refine wpList_append_own _ rfl _ _ 45 rfl (S+1) 57 i0 _ 5 56 Tryz.underlying45 hi hz0 hz1 hz2 rfl (by decide) (.slice (some ⟨B,0,none⟩) s0 c) s0 fl0 rfl HR4.out ⟨g,0,none⟩ ln c1 fl1 rfl HFL.out (fun q u hq=>by rw[add_at];exact HNN.out q u hq) HON.out (by unfold maxLen;omega) (by omega) (by omega) ?_))
      intro v' w4 hrow hg hnil0
      obtain ⟨B',c',hv',hB'⟩:∃B' c',v'=.slice (some ⟨B',0,none⟩) (s0+ln) c'∧S<B':=by
        obtain ⟨_,h1 | ⟨g,cap,cur,hv,_⟩⟩:=id hrow
        · exact absurd h1.2 (by omega)
        · exact ⟨g,cap,hv,by have:=(hrow.lt g (by rw[hv];rfl)).1;omega⟩
      subst hv'
      have HN5:=Lib.hid (HN4.out.grow hg (fun k e=>by have e':B=k:=Option.some.inj e;omega))
      have HR5:=Lib.hid hrow
      clear hrow hg HR4 HN4 cc
      go_wp2_with fail
      go_roundw
      case rel=>exact ⟨k+1,B',c',by omega,by go_num,by rw[HNX.out],hB',HN5.out,by rw[HNX.out,HNF.out];exact HR5.out⟩
      case measure=>simp[intOf];omega
    · obtain rfl:k=j:=by omega
      have hall:(L.take k).flatten=L.flatten:=by rw[List.take_of_length_le (by rw[HL.out];omega)]
      rw[hall] at HR4 ⊢
      have HFIN:Hid (JoinPost w ⟨op,sort,name,num,kids⟩ L (.returned (.slice (some ⟨B,0,none⟩) (1+L.flatten.length) c)) wr):=Lib.hid (by
        have hrow:=HR4.out
        obtain ⟨c',hc'⟩:∃c',c=1+L.flatten.length+c':=⟨c-(1+L.flatten.length),by have:=row_cap hrow;omega⟩
        refine ⟨B,c',by rw[←hc'],flat_nodes (fun q hq=>?_),(hrow.lt B rfl).2,by rw[HS.out];omega,by rw[HS.out];exact HN4.out.bel⟩
        have hq':q<(1+L.flatten.length)*5:=by simp only[List.length_cons] at hq;omega
        rw[hrow.cellAt q hq']
        show (flatN (⟨op,sort,name,num,(k:Int)⟩::L.flatten))[q]? =(flatN (⟨op,sort,name,num,(L.length:Int)⟩::L.flatten))[q]?
        rw[HL.out])
      clear HR4 HN4
      go_wp2
      go_ret
      exact HFIN.out
end
end Go.Proofs.YtpkfnnkbfphfbaaGreatDoor.Se

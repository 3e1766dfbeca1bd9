/- Two rows of strings that grow side by side in a box. -/
import Derived.Test.YtpkfnnkbfphfbaaGreatDoorLEF
import Derived.Test.YtpkfnnkbfphfbaaGreatDoorLEJ
import Derived.Maps.AppendAt
import Derived.Test.YtpkfnnkbfphfbaaGreatDoorLEB
set_option maxRecDepth 100000
set_option maxHeartbeats 40000000
namespace Go.Proofs.YtpkfnnkbfphfbaaGreatDoor.Se
open Go.RowKit Nmx

theorem infoStr2:(Tryz.prog.info? 9).map (fun i=>(i.zero,i.size,i.bytes))=some (some (.string ⟨#[]⟩),1,16):=by kernel_rfl
theorem addAt_append_at {P:Program} {o:Oper} {a:Act} {w:World} {R:Value→World→Prop} (s x:Operand) (t:TypeId)
    (ho:o.op=.call { callee:=.builtin .append,args:=#[s,x],argTypes:=#[t,t] })
    (base:Nat) (e:TypeId) (i:TypeInfo) (z:Value) (size bytes:Nat) (ht:P.underlying t=some (.slice e)) (hi:P.info? e=some i) (hz:i.zero=some z)
    (hsize:i.size=size) (hby:i.bytes=bytes) (hzs:z.cells.size=size) (hsz:0<size)
    (v:Value) (n:Nat) (xs:List Value) (hs:a.eval s=v) (hown:w.ownsRow base e size v n xs)
    (ad:Addr) (m c:Nat) (news:List Value) (hx:a.eval x=.slice (some ad) m c) (hl:news.length=m*size) (hnews:∀j u,news[j]? =some u→w.cell? (ad.add j)=some u) (h1:∀u∈news,u.oneCell'=true)
    (h63:n+m≤maxLen) (hbytes:(n+m)*bytes≤140737488355328) (hbase:base≤w.heap.size)
    (h:∀v' w',w'.ownsRow base e size v' (n+m) (xs++news)→w.grownBy w' v.ownBlock→(v'.ownBlock=v.ownBlock∨v'.ownBlock=some w.heap.size)→R v' w'):addAt P o a w R:=by
  obtain ⟨v',w',hr,h2,h3,-,h5⟩:=run_append_own_at (P:=P) w base t o.type e i z size bytes ht hi hz hsize hby hzs hsz v n xs hown ad m c news hl hnews h1 h63 hbytes hbase
  unfold addAt execOp
  simp only[ho,resolve,invoke,builtin,Sem.run_bind,Sem.run_pure,Result.andThen_ok,List.map_toArray,List.map_cons,List.map_nil,hs,hx,hr]
  exact h v' w' h2 h3 h5
theorem SRow.snoc {S:Nat} {w:World} {u:Value} {ts:List ByteArray} {t:ByteArray} (h:w.ownsRow S 9 1 u (ts.length+1) (ts.map Value.string++[.string t])):SRow S w u (ts++[t]):=by
  show World.ownsRow _ _ _ _ _ _ _
  rw[List.length_append,List.map_append];exact h
structure RJ (O:Nat) (w0:World) (td:ByteArray) (ko uo:Value) (ts us:List ByteArray) (tk tv:ByteArray) (l3 l4 l8 l9 l11 l13:Bool) (x3 x4 x8 x9:Value) (W:World):Prop where
  bel:Below O w0 W
  box:W.heap[O]? =some (.cells #[.int .i64 4,.bool false,.string td,bif l11 then x4 else ko,bif l13 then x9 else uo] 24 (0,0))
  kr:SRow (O+1) W (bif l4 then x4 else ko) (bif l4 then ts++[tk] else ts)
  ur:SRow (O+1) W (bif l9 then x9 else uo) (bif l9 then us++[tv] else us)
  ne:∀g,(bif l4 then x4 else ko).ownBlock=some g→(bif l9 then x9 else uo).ownBlock≠some g
  s3:l3=true→l4=false→∃g,x3=.slice (some ⟨g,0,none⟩) 1 1∧W.heap[g]? =some (.cells #[.string tk] 9 (0,0))∧(bif l9 then x9 else uo).ownBlock≠some g
  s8:l8=true→l9=false→∃g,x8=.slice (some ⟨g,0,none⟩) 1 1∧W.heap[g]? =some (.cells #[.string tv] 9 (0,0))∧(bif l4 then x4 else ko).ownBlock≠some g
section
variable {O:Nat} {w0:World} {td:ByteArray} {ko uo:Value} {ts us:List ByteArray} {tk tv:ByteArray} {l3 l4 l8 l9 l11 l13:Bool} {x3 x4 x8 x9:Value} {W:World}
theorem RJ.lt (h:RJ O w0 td ko uo ts us tk tv l3 l4 l8 l9 l11 l13 x3 x4 x8 x9 W):O<W.heap.size:=lt_of_heap h.box
theorem RJ.drew (h:RJ O w0 td ko uo ts us tk tv l3 l4 l8 l9 l11 l13 x3 x4 x8 x9 W):RJ O w0 td ko uo ts us tk tv l3 l4 l8 l9 l11 l13 x3 x4 x8 x9 W.drew:=
  ⟨h.bel.drew,h.box,ownsRow_block h.kr fun _ _=>rfl,ownsRow_block h.ur fun _ _=>rfl,h.ne,h.s3,h.s8⟩
theorem RJ.build3 (h:RJ O w0 td ko uo ts us tk tv l3 l4 l8 l9 l11 l13 x3 x4 x8 x9 W):RJ O w0 td ko uo ts us tk tv true l4 l8 l9 l11 l13 (.slice (some ⟨W.heap.size,0,none⟩) 1 1) x4 x8 x9 (W.alloc (.cells #[.string tk] 9)):=by
  have hb:=alloc_far' W (.cells #[.string tk] 9)
  exact ⟨h.bel.trans (hb.mono (Nat.le_of_lt h.lt)),(hb.block _ h.lt).trans h.box,h.kr.far hb,h.ur.far hb,h.ne,fun _ _=>⟨_,rfl,heap_alloc_new W _,fun e=>Nat.lt_irrefl _ (h.ur.lt _ e).2⟩,fun e e'=>let ⟨g,h1,h2,h3⟩:=h.s8 e e';⟨g,h1,(hb.block _ (lt_of_heap h2)).trans h2,h3⟩⟩
theorem RJ.build8 (h:RJ O w0 td ko uo ts us tk tv l3 l4 l8 l9 l11 l13 x3 x4 x8 x9 W):RJ O w0 td ko uo ts us tk tv l3 l4 true l9 l11 l13 x3 x4 (.slice (some ⟨W.heap.size,0,none⟩) 1 1) x9 (W.alloc (.cells #[.string tv] 9)):=by
  have hb:=alloc_far' W (.cells #[.string tv] 9)
  exact ⟨h.bel.trans (hb.mono (Nat.le_of_lt h.lt)),(hb.block _ h.lt).trans h.box,h.kr.far hb,h.ur.far hb,h.ne,fun e e'=>let ⟨g,h1,h2,h3⟩:=h.s3 e e';⟨g,h1,(hb.block _ (lt_of_heap h2)).trans h2,h3⟩,fun _ _=>⟨_,rfl,heap_alloc_new W _,fun e=>Nat.lt_irrefl _ (h.kr.lt _ e).2⟩⟩
theorem RJ.app4 {v':Value} {w':World} (h:RJ O w0 td ko uo ts us tk tv l3 false l8 l9 false l13 x3 x4 x8 x9 W) (hown:w'.ownsRow (O+1) 9 1 v' (ts.length+1) (ts.map Value.string++[.string tk])) (hg:W.grownBy w' ko.ownBlock) (hat:v'.ownBlock=ko.ownBlock∨v'.ownBlock=some W.heap.size):
    RJ O w0 td ko uo ts us tk tv l3 true l8 l9 false l13 x3 v' x8 x9 w' where
  bel:=h.bel.grown hg (Nat.le_of_lt h.lt) fun k hk=>Nat.le_of_succ_le (h.kr.lt k hk).1
  box:=(hg.block O h.lt fun e=>by have:=(h.kr.lt O e.symm).1;omega).trans h.box
  kr:=SRow.snoc hown
  ur:=ownsRow_block h.ur fun g e=>hg.block g (h.ur.lt g e).2 fun e'=>h.ne g e'.symm e
  ne:=fun g e e'=>by
    rcases hat with q | q
    · exact h.ne g (q.symm.trans e) e'
    · obtain rfl:=Option.some.inj (q.symm.trans e)
      exact Nat.lt_irrefl _ (h.ur.lt _ e').2
  s3:=fun _ e=>by cases e
  s8:=fun e e'=>let ⟨g,h1,h2,h3⟩:=h.s8 e e';⟨g,h1,(hg.block _ (lt_of_heap h2) fun q=>h3 q.symm).trans h2,fun q=>by
    rcases hat with q' | q'
    · exact h3 (q'.symm.trans q)
    · have hq:some W.heap.size=some g:=q'.symm.trans q
      obtain rfl:=Option.some.inj hq
      exact Nat.lt_irrefl _ (lt_of_heap h2)⟩
theorem RJ.app9 {v':Value} {w':World} (h:RJ O w0 td ko uo ts us tk tv l3 l4 l8 false l11 false x3 x4 x8 x9 W) (hown:w'.ownsRow (O+1) 9 1 v' (us.length+1) (us.map Value.string++[.string tv])) (hg:W.grownBy w' uo.ownBlock) (hat:v'.ownBlock=uo.ownBlock∨v'.ownBlock=some W.heap.size):
    RJ O w0 td ko uo ts us tk tv l3 l4 l8 true l11 false x3 x4 x8 v' w' where
  bel:=h.bel.grown hg (Nat.le_of_lt h.lt) fun k hk=>Nat.le_of_succ_le (h.ur.lt k hk).1
  box:=(hg.block O h.lt fun e=>by have:=(h.ur.lt O e.symm).1;omega).trans h.box
  kr:=ownsRow_block h.kr fun g e=>hg.block g (h.kr.lt g e).2 fun e'=>h.ne g e e'.symm
  ur:=SRow.snoc hown
  ne:=fun g e e'=>by
    rcases hat with q | q
    · exact h.ne g e (q.symm.trans e')
    · have hq:some W.heap.size=some g:=q.symm.trans e'
      obtain rfl:=Option.some.inj hq
      exact Nat.lt_irrefl _ (h.kr.lt _ e).2
  s3:=fun e e'=>let ⟨g,h1,h2,h3⟩:=h.s3 e e';⟨g,h1,(hg.block _ (lt_of_heap h2) fun q=>h3 q.symm).trans h2,fun q=>by
    rcases hat with q' | q'
    · exact h3 (q'.symm.trans q)
    · have hq:some W.heap.size=some g:=q'.symm.trans q
      obtain rfl:=Option.some.inj hq
      exact Nat.lt_irrefl _ (lt_of_heap h2)⟩
  s8:=fun _ e=>by cases e
theorem RJ.setO (h:RJ O w0 td ko uo ts us tk tv l3 l4 l8 l9 l11 l13 x3 x4 x8 x9 W) (j:Nat) (u:Value) (l11' l13':Bool) (hb:(W.setCell ⟨O,j,none⟩ u).heap[O]? =some (.cells #[.int .i64 4,.bool false,.string td,bif l11' then x4 else ko,bif l13' then x9 else uo] 24 (0,0))):
    RJ O w0 td ko uo ts us tk tv l3 l4 l8 l9 l11' l13' x3 x4 x8 x9 (W.setCell ⟨O,j,none⟩ u) where
  bel:=h.bel.setCell (p:=⟨O,j,none⟩) (Nat.le_refl _) _
  box:=hb
  kr:=ownsRow_block h.kr fun g e=>Below.heap_setCell _ _ _ _ (by have:=(h.kr.lt g e).1;show g≠O;omega)
  ur:=ownsRow_block h.ur fun g e=>Below.heap_setCell _ _ _ _ (by have:=(h.ur.lt g e).1;show g≠O;omega)
  ne:=h.ne
  s3:=fun e e'=>let ⟨g,h1,h2,h3⟩:=h.s3 e e';⟨g,h1,(Below.heap_setCell _ _ _ _ (fun q=>by
    have q':g=O:=q
    subst q'
    have:=h.box.symm.trans h2
    injection Option.some.inj this with _ e2 _
    exact absurd e2 (by decide))).trans h2,h3⟩
  s8:=fun e e'=>let ⟨g,h1,h2,h3⟩:=h.s8 e e';⟨g,h1,(Below.heap_setCell _ _ _ _ (fun q=>by
    have q':g=O:=q
    subst q'
    have:=h.box.symm.trans h2
    injection Option.some.inj this with _ e2 _
    exact absurd e2 (by decide))).trans h2,h3⟩
theorem RJ.store3 {v:Value} (e:x4=v) (h:RJ O w0 td ko uo ts us tk tv l3 l4 l8 l9 l11 l13 x3 x4 x8 x9 W):RJ O w0 td ko uo ts us tk tv l3 l4 l8 l9 true l13 x3 x4 x8 x9 (W.setCell ⟨O,3,none⟩ v):=by
  subst e
  exact h.setO 3 x4 true l13 (by have:=heap_set h.box 3 x4;exact this)
theorem RJ.store4 {v:Value} (e:x9=v) (h:RJ O w0 td ko uo ts us tk tv l3 l4 l8 l9 l11 l13 x3 x4 x8 x9 W):RJ O w0 td ko uo ts us tk tv l3 l4 l8 l9 l11 true x3 x4 x8 x9 (W.setCell ⟨O,4,none⟩ v):=by
  subst e
  exact h.setO 4 x9 l11 true (by have:=heap_set h.box 4 x9;exact this)
end
end Go.Proofs.YtpkfnnkbfphfbaaGreatDoor.Se
/- Small numbers are constants: Must, Num, QuoRem, FromInt, String at them. -/
namespace Go.Proofs.YtpkfnnkbfphfbaaGreatDoor.Se
open Go.RowKit Nmx

def iC (z:Int):Value:=.agg #[.int .i64 z,.bool false,.slice none 0 0]
def rC (z:Int):Value:=.agg #[.int .i64 z,.bool false,.slice none 0 0,.int .i64 0,.bool false,.slice none 0 0]
theorem iv_small {w:World} {v:Value} {z:Int} (h:IV w v z) (hz:Small z):v=iC z:=by
  rcases h with ⟨h,-⟩ | ⟨b,g,off,cap,l,-,-,hB,he⟩
  · exact h
  · exfalso
    have h2:=hB.2.1
    have h3:=hB.pos
    unfold sgn at he
    unfold Small at *
    split at he <;> omega
theorem iv_of {w:World} {z:Int} (hz:Small z):IV w (iC z) z:=.inl ⟨rfl,hz⟩
theorem rv_small {w:World} {v:Value} {z:Int} (h:RV w v (z:Rat)) (hz:Small z):v=rC z:=by
  obtain ⟨s1,b1,a1,n1,c1,s2,b2,a2,n2,c2,rfl,h1,h2⟩:=h
  rw[Rat.num_intCast] at h1
  replace h2:IV w (.agg #[.int .i64 s2,.bool b2,.slice a2 n2 c2]) 0:=by
    unfold denI at h2;rw[Rat.den_intCast] at h2;exact h2
  have e1:=iv_small h1 hz
  have e2:=iv_small h2 (by unfold Small;decide)
  unfold iC at e1 e2
  injection e1 with e1
  injection e2 with e2
  simp at e1 e2
  obtain ⟨rfl,rfl,rfl,rfl,rfl⟩:=e1
  obtain ⟨rfl,rfl,rfl,rfl,rfl⟩:=e2
  rfl
theorem rv_of {w:World} {z:Int} (hz:Small z):RV w (rC z) (z:Rat):=⟨z,false,none,0,0,0,false,none,0,0,rfl,by rw[Rat.num_intCast];exact iv_of hz,by unfold denI;rw[Rat.den_intCast];exact iv_of (z:=0) (by unfold Small;decide)⟩
theorem mustC {z:Int} (hz:Small z) (W:World) (h:Env W):Calls Tryz.prog 94 #[.string (TI z)] W fun e w'=>e=.returned (rC z)∧Below W.heap.size W w':=by
  refine (mustT (d:=50) (DS.int (by unfold Small at hz;omega)) (by decide) W h).mono ?_
  rintro e w' ⟨v,rfl,hv,hb⟩
  exact ⟨by rw[rv_small hv hz],hb⟩
theorem numC {z:Int} (hz:Small z) (W:World):Calls Tryz.prog 142 #[rC z] W fun e w'=>e=.returned (iC z)∧Below W.heap.size W w':=by
  refine (ratNum_any _ (z:Rat) W (rv_of hz)).mono ?_
  rintro e w' ⟨v,rfl,hv,hb⟩
  rw[Rat.num_intCast] at hv
  exact ⟨by rw[iv_small hv hz],hb⟩
theorem quoRemC {a b:Int} (ha:Small a) (hb:Small b) (h0:b≠0) (hq:Small (a / b)) (hr:Small (a % b)) (W:World):Calls Tryz.prog 127 #[iC a,iC b] W fun e w'=>e=.returned (.tuple #[iC (a / b),iC (a % b)])∧Below W.heap.size W w':=by
  refine (quoRem_ss W ha hb h0).mono ?_
  rintro e w' ⟨v1,v2,rfl,h1,h2,hbb⟩
  exact ⟨by rw[iv_small h1 hq,iv_small h2 hr],hbb⟩
theorem fromIntC {z:Int} (hz:Small z) (W:World):Calls Tryz.prog 144 #[iC z] W fun e w'=>e=.returned (rC z)∧Below W.heap.size W w':=by
  refine (ratFromInt_any _ z W (iv_of hz)).mono ?_
  rintro e w' ⟨v,rfl,hv,hb⟩
  exact ⟨by rw[rv_small hv hz],hb⟩
theorem stringC {z:Int} (hz:Small z) (W:World) (h:Env W):Calls Tryz.prog 97 #[rC z] W fun e w'=>e=.returned (.string (TI z))∧Below W.heap.size W w':=by
  have hl:=(DS.int (d:=50) (z:=z) (by unfold Small at hz;omega)).parts
  exact ratString_any _ (z:Rat) W (rv_of hz) h (by omega)
def cL (s z:Int):List Value:=[.int .i64 s,.bool false,.int .i64 z,.bool false,.slice none 0 0,.int .i64 0,.bool false,.slice none 0 0,.int .i64 0,.bool false,.string ⟨#[]⟩,.slice none 0 0,.slice none 0 0]
def cC (s z:Int):Value:=.agg (cL s z).toArray
section
theorem end_cell {fn:Func} {t:Tmp} {a:Act} {w2:World} {R:Nat} {s z:Int} {post:Ending→World→Prop} (hres:fn.results=#[.cell t 95]) (hd:a.defers=[]) (ht:a.tmps.getD t undef=.pointer (some ⟨R,0,none⟩))
    (hR:w2.heap[R]? =some (.cells (cL s z).toArray 95 (0,0))) (h:post (.returned (cC s z)) w2):bodyPost Tryz.prog fn post .ret a w2:=by
  unfold cC cL at *
  have k0:=heap_cell hR 0
  have k1:=heap_cell hR 1
  have k2:=heap_cell hR 2
  have k3:=heap_cell hR 3
  have k4:=heap_cell hR 4
  have k5:=heap_cell hR 5
  have k6:=heap_cell hR 6
  have k7:=heap_cell hR 7
  have k8:=heap_cell hR 8
  have k9:=heap_cell hR 9
  have k10:=heap_cell hR 10
  have k11:=heap_cell hR 11
  have k12:=heap_cell hR 12
  simp at k0 k1 k2 k3 k4 k5 k6 k7 k8 k9 k10 k11 k12
  refine bodyPost_ret (v:=.agg #[.int .i64 s,.bool false,.int .i64 z,.bool false,.slice none 0 0,.int .i64 0,.bool false,.slice none 0 0,.int .i64 0,.bool false,.string ⟨#[]⟩,.slice none 0 0,.slice none 0 0]) ?_ hd h
  have ht':a.tmps[t]?.getD undef=.pointer (some ⟨R,0,none⟩):=by simpa using ht
  simp[results,hres,go_sem,ht',k0,k1,k2,k3,k4,k5,k6,k7,k8,k9,k10,k11,k12]
theorem integerC {z:Int} (w:World):Calls Tryz.prog 143 #[rC z] w fun e w'=>e=.returned (cC 2 z)∧Below w.heap.size w w':=by
  unfold rC cC cL
  go_enter Tryz.func143,Tryz.ntmps143
  go_wp2
  have hx:=heap_alloc_new (w.alloc (.cells #[.int .i64 z,.bool false,.slice none 0 0,.int .i64 0,.bool false,.slice none 0 0] 75)) (.cells (cL 2 z).toArray 95)
  rw[show (w.alloc (.cells #[.int .i64 z,.bool false,.slice none 0 0,.int .i64 0,.bool false,.slice none 0 0] 75)).heap.size=w.heap.size+1 by simp] at hx
  exact end_cell (s:=2) (z:=z) rfl rfl rfl hx ⟨rfl,(alloc_far' w _).trans ((alloc_far' _ _).mono (alloc_far' w _).size)⟩
end
structure EV (E g c:Nat) (ts:List Nd) (p:Int) (m1 m2:Value) (W:World):Prop where
  ev:W.heap[E]? =some (.cells #[.slice (some ⟨g,0,none⟩) ts.length c,.int .i64 p,m1,m2,.int .i64 0] 84 (0,0))
  nd:NodesAt W g ts
  gl:g<W.heap.size
  ne:E≠g
theorem EV.far {E g c:Nat} {ts:List Nd} {p:Int} {m1 m2:Value} {W W':World} (h:EV E g c ts p m1 m2 W) (hb:Below W.heap.size W W'):EV E g c ts p m1 m2 W':=
  ⟨(hb.block _ (lt_of_heap h.ev)).trans h.ev,h.nd.below hb h.gl,Nat.lt_of_lt_of_le h.gl hb.size,h.ne⟩
theorem EV.blocks {E g c:Nat} {ts:List Nd} {p:Int} {m1 m2:Value} {W W':World} (h:EV E g c ts p m1 m2 W) (hE:W'.heap[E]? =W.heap[E]?) (hg:W'.heap[g]? =W.heap[g]?):EV E g c ts p m1 m2 W':=
  ⟨hE.trans h.ev,fun i x hx j hj=>(World.cell?_of_block (a:=⟨g,i*5+j,none⟩) hg).trans (h.nd i x hx j hj),by
    have:=h.gl
    rcases Nat.lt_or_ge g W'.heap.size with h' | h'
    · exact h'
    · rw[Array.getElem?_eq_none h'] at hg
      have:=Array.getElem?_eq_none_iff.1 hg.symm
      omega,h.ne⟩
theorem set5 {B:Nat} {t:TypeId} {W:World} {a0 a1 a2 a3 a4:Value} (h:W.heap[B]? =some (.cells #[a0,a1,a2,a3,a4] t (0,0))) (v0 v1 v2 v3 v4:Value):
    (((((W.setCell ⟨B,0,none⟩ v0).setCell ⟨B,1,none⟩ v1).setCell ⟨B,2,none⟩ v2).setCell ⟨B,3,none⟩ v3).setCell ⟨B,4,none⟩ v4).heap[B]? =some (.cells #[v0,v1,v2,v3,v4] t (0,0))∧
    (∀b,b≠B→(((((W.setCell ⟨B,0,none⟩ v0).setCell ⟨B,1,none⟩ v1).setCell ⟨B,2,none⟩ v2).setCell ⟨B,3,none⟩ v3).setCell ⟨B,4,none⟩ v4).heap[b]? =W.heap[b]?)∧
    (∀{S w},Below S w W→S≤B→Below S w (((((W.setCell ⟨B,0,none⟩ v0).setCell ⟨B,1,none⟩ v1).setCell ⟨B,2,none⟩ v2).setCell ⟨B,3,none⟩ v3).setCell ⟨B,4,none⟩ v4)):=
  ⟨heap_set (heap_set (heap_set (heap_set (heap_set h 0 _) 1 _) 2 _) 3 _) 4 _,fun _ hb=>(Below.heap_setCell _ _ _ _ hb).trans ((Below.heap_setCell _ _ _ _ hb).trans ((Below.heap_setCell _ _ _ _ hb).trans ((Below.heap_setCell _ _ _ _ hb).trans (Below.heap_setCell _ _ _ _ hb)))),fun hbl hS=>((((hbl.setCell hS _).setCell hS _).setCell hS _).setCell hS _).setCell hS _⟩
end Go.Proofs.YtpkfnnkbfphfbaaGreatDoor.Se

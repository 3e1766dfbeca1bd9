/- Small numbers are constants: Must, Num, QuoRem, FromInt, String at them. -/
import Derived.Test.YtpkfnnkbfphfbaaGreatDoorGEB
import Derived.Test.YtpkfnnkbfphfbaaGreatDoorGEJ
set_option maxRecDepth 100000
set_option maxHeartbeats 40000000
namespace Go.Proofs.YtpkfnnkbfphfbaaGreatDoor.Se
open Go.RowKit Nmx

def iC (z:Int):Value:=.agg #[.int .i64 z,.bool false,.slice none 0 0]
def rC (z:Int):Value:=.agg #[.int .i64 z,.bool false,.slice none 0 0,.int .i64 0,.bool false,.slice none 0 0]
theorem iv_small {w:World} {v:Value} {z:Int} (h:IV w v z) (hz:Small z):v=iC z:=by
  rcases h with ⟨h,-⟩ | ⟨b,g,off,cap,l,-,-,hB,he⟩
  · exact h
  · exfalso
    have h2:=hB.2.1
    have h3:=hB.pos
    unfold sgn at he
    unfold Small at *
    split at he <;> omega
theorem iv_of {w:World} {z:Int} (hz:Small z):IV w (iC z) z:=.inl ⟨rfl,hz⟩
theorem rv_small {w:World} {v:Value} {z:Int} (h:RV w v (z:Rat)) (hz:Small z):v=rC z:=by
  obtain ⟨s1,b1,a1,n1,c1,s2,b2,a2,n2,c2,rfl,h1,h2⟩:=h
  rw[Rat.num_intCast] at h1
  replace h2:IV w (.agg #[.int .i64 s2,.bool b2,.slice a2 n2 c2]) 0:=by
    unfold denI at h2;rw[Rat.den_intCast] at h2;exact h2
  have e1:=iv_small h1 hz
  have e2:=iv_small h2 (by unfold Small;decide)
  unfold iC at e1 e2
  injection e1 with e1
  injection e2 with e2
  simp at e1 e2
  obtain ⟨rfl,rfl,rfl,rfl,rfl⟩:=e1
  obtain ⟨rfl,rfl,rfl,rfl,rfl⟩:=e2
  rfl
theorem rv_of {w:World} {z:Int} (hz:Small z):RV w (rC z) (z:Rat):=⟨z,false,none,0,0,0,false,none,0,0,rfl,by rw[Rat.num_intCast];exact iv_of hz,by unfold denI;rw[Rat.den_intCast];exact iv_of (z:=0) (by unfold Small;decide)⟩
theorem mustC {z:Int} (hz:Small z) (W:World) (h:Env W):Calls Tryz.prog 94 #[.string (TI z)] W fun e w'=>e=.returned (rC z)∧Below W.heap.size W w':=by
  refine (mustT (d:=50) (DS.int (by unfold Small at hz;omega)) (by decide) W h).mono ?_
  rintro e w' ⟨v,rfl,hv,hb⟩
  exact ⟨by rw[rv_small hv hz],hb⟩
theorem numC {z:Int} (hz:Small z) (W:World):Calls Tryz.prog 142 #[rC z] W fun e w'=>e=.returned (iC z)∧Below W.heap.size W w':=by
  refine (ratNum_any _ (z:Rat) W (rv_of hz)).mono ?_
  rintro e w' ⟨v,rfl,hv,hb⟩
  rw[Rat.num_intCast] at hv
  exact ⟨by rw[iv_small hv hz],hb⟩
theorem quoRemC {a b:Int} (ha:Small a) (hb:Small b) (h0:b≠0) (hq:Small (a / b)) (hr:Small (a % b)) (W:World):Calls Tryz.prog 127 #[iC a,iC b] W fun e w'=>e=.returned (.tuple #[iC (a / b),iC (a % b)])∧Below W.heap.size W w':=by
  refine (quoRem_ss W ha hb h0).mono ?_
  rintro e w' ⟨v1,v2,rfl,h1,h2,hbb⟩
  exact ⟨by rw[iv_small h1 hq,iv_small h2 hr],hbb⟩
theorem fromIntC {z:Int} (hz:Small z) (W:World):Calls Tryz.prog 144 #[iC z] W fun e w'=>e=.returned (rC z)∧Below W.heap.size W w':=by
  refine (ratFromInt_any _ z W (iv_of hz)).mono ?_
  rintro e w' ⟨v,rfl,hv,hb⟩
  exact ⟨by rw[rv_small hv hz],hb⟩
theorem stringC {z:Int} (hz:Small z) (W:World) (h:Env W):Calls Tryz.prog 97 #[rC z] W fun e w'=>e=.returned (.string (TI z))∧Below W.heap.size W w':=by
  have hl:=(DS.int (d:=50) (z:=z) (by unfold Small at hz;omega)).parts
  exact ratString_any _ (z:Rat) W (rv_of hz) h (by omega)
def cL (s z:Int):List Value:=[.int .i64 s,.bool false,.int .i64 z,.bool false,.slice none 0 0,.int .i64 0,.bool false,.slice none 0 0,.int .i64 0,.bool false,.string ⟨#[]⟩,.slice none 0 0,.slice none 0 0]
def cC (s z:Int):Value:=.agg (cL s z).toArray
section
theorem end_cell {fn:Func} {t:Tmp} {a:Act} {w2:World} {R:Nat} {s z:Int} {post:Ending→World→Prop} (hres:fn.results=#[.cell t 95]) (hd:a.defers=[]) (ht:a.tmps.getD t undef=.pointer (some ⟨R,0,none⟩))
    (hR:w2.heap[R]? =some (.cells (cL s z).toArray 95 (0,0))) (h:post (.returned (cC s z)) w2):bodyPost Tryz.prog fn post .ret a w2:=by
  unfold cC cL at *
  have k0:=heap_cell hR 0
  have k1:=heap_cell hR 1
  have k2:=heap_cell hR 2
  have k3:=heap_cell hR 3
  have k4:=heap_cell hR 4
  have k5:=heap_cell hR 5
  have k6:=heap_cell hR 6
  have k7:=heap_cell hR 7
  have k8:=heap_cell hR 8
  have k9:=heap_cell hR 9
  have k10:=heap_cell hR 10
  have k11:=heap_cell hR 11
  have k12:=heap_cell hR 12
  simp at k0 k1 k2 k3 k4 k5 k6 k7 k8 k9 k10 k11 k12
  refine bodyPost_ret (v:=.agg #[.int .i64 s,.bool false,.int .i64 z,.bool false,.slice none 0 0,.int .i64 0,.bool false,.slice none 0 0,.int .i64 0,.bool false,.string ⟨#[]⟩,.slice none 0 0,.slice none 0 0]) ?_ hd h
  have ht':a.tmps[t]?.getD undef=.pointer (some ⟨R,0,none⟩):=by simpa using ht
  simp[results,hres,go_sem,ht',k0,k1,k2,k3,k4,k5,k6,k7,k8,k9,k10,k11,k12]
theorem integerC {z:Int} (w:World):Calls Tryz.prog 143 #[rC z] w fun e w'=>e=.returned (cC 2 z)∧Below w.heap.size w w':=by
  unfold rC cC cL
  go_enter Tryz.func143,Tryz.ntmps143
  go_wp2
  have hx:=heap_alloc_new (w.alloc (.cells #[.int .i64 z,.bool false,.slice none 0 0,.int .i64 0,.bool false,.slice none 0 0] 75)) (.cells (cL 2 z).toArray 95)
  rw[show (w.alloc (.cells #[.int .i64 z,.bool false,.slice none 0 0,.int .i64 0,.bool false,.slice none 0 0] 75)).heap.size=w.heap.size+1 by simp] at hx
  exact end_cell (s:=2) (z:=z) rfl rfl rfl hx ⟨rfl,(alloc_far' w _).trans ((alloc_far' _ _).mono (alloc_far' w _).size)⟩
end
structure EV (E g c:Nat) (ts:List Nd) (p:Int) (m1 m2:Value) (W:World):Prop where
  ev:W.heap[E]? =some (.cells #[.slice (some ⟨g,0,none⟩) ts.length c,.int .i64 p,m1,m2,.int .i64 0] 84 (0,0))
  nd:NodesAt W g ts
  gl:g<W.heap.size
  ne:E≠g
theorem EV.far {E g c:Nat} {ts:List Nd} {p:Int} {m1 m2:Value} {W W':World} (h:EV E g c ts p m1 m2 W) (hb:Below W.heap.size W W'):EV E g c ts p m1 m2 W':=
  ⟨(hb.block _ (lt_of_heap h.ev)).trans h.ev,h.nd.below hb h.gl,Nat.lt_of_lt_of_le h.gl hb.size,h.ne⟩
theorem EV.blocks {E g c:Nat} {ts:List Nd} {p:Int} {m1 m2:Value} {W W':World} (h:EV E g c ts p m1 m2 W) (hE:W'.heap[E]? =W.heap[E]?) (hg:W'.heap[g]? =W.heap[g]?):EV E g c ts p m1 m2 W':=
  ⟨hE.trans h.ev,fun i x hx j hj=>(World.cell?_of_block (a:=⟨g,i*5+j,none⟩) hg).trans (h.nd i x hx j hj),by
    have:=h.gl
    rcases Nat.lt_or_ge g W'.heap.size with h' | h'
    · exact h'
    · rw[Array.getElem?_eq_none h'] at hg
      have:=Array.getElem?_eq_none_iff.1 hg.symm
      omega,h.ne⟩
theorem set5 {B:Nat} {t:TypeId} {W:World} {a0 a1 a2 a3 a4:Value} (h:W.heap[B]? =some (.cells #[a0,a1,a2,a3,a4] t (0,0))) (v0 v1 v2 v3 v4:Value):
    (((((W.setCell ⟨B,0,none⟩ v0).setCell ⟨B,1,none⟩ v1).setCell ⟨B,2,none⟩ v2).setCell ⟨B,3,none⟩ v3).setCell ⟨B,4,none⟩ v4).heap[B]? =some (.cells #[v0,v1,v2,v3,v4] t (0,0))∧
    (∀b,b≠B→(((((W.setCell ⟨B,0,none⟩ v0).setCell ⟨B,1,none⟩ v1).setCell ⟨B,2,none⟩ v2).setCell ⟨B,3,none⟩ v3).setCell ⟨B,4,none⟩ v4).heap[b]? =W.heap[b]?)∧
    (∀{S w},Below S w W→S≤B→Below S w (((((W.setCell ⟨B,0,none⟩ v0).setCell ⟨B,1,none⟩ v1).setCell ⟨B,2,none⟩ v2).setCell ⟨B,3,none⟩ v3).setCell ⟨B,4,none⟩ v4)):=
  ⟨heap_set (heap_set (heap_set (heap_set (heap_set h 0 _) 1 _) 2 _) 3 _) 4 _,fun _ hb=>(Below.heap_setCell _ _ _ _ hb).trans ((Below.heap_setCell _ _ _ _ hb).trans ((Below.heap_setCell _ _ _ _ hb).trans ((Below.heap_setCell _ _ _ _ hb).trans (Below.heap_setCell _ _ _ _ hb)))),fun hbl hS=>((((hbl.setCell hS _).setCell hS _).setCell hS _).setCell hS _).setCell hS _⟩
end Go.Proofs.YtpkfnnkbfphfbaaGreatDoor.Se

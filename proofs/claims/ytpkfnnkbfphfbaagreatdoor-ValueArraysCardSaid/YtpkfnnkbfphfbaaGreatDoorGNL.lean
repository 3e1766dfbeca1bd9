/- Rat.IsInt, Num, Den, Sign of package exact; IsInt, Sign, Valid of package number. -/
import Derived.Test.YtpkfnnkbfphfbaaGreatDoorGNI
import Derived.Lib.SmallJoins
import Derived.StillTailTactics
import Derived.Lib.AppendIntMem
import Derived.Test.YtpkfnnkbfphfbaaGreatDoorGNC
import Derived.Lib.AppendStr
import Derived.Deep.CutBlock
import Derived.Deep.DeepCutAuto
import Derived.Deep.RegionHeld3
set_option maxRecDepth 100000
set_option maxHeartbeats 40000000
namespace Go.Proofs.YtpkfnnkbfphfbaaGreatDoor
open Go.RowKit Nmx

theorem denI_zero (q:Rat):decide (denI q=0)=decide (q.den=1):=by
  have:=q.den_nz;unfold denI
  by_cases h:q.den=1
  · rw[if_pos h];simp[h]
  · rw[if_neg h];simp[h];exact this
theorem rv_form {w:World} {v:Value} {q:Rat} (h:RV w v q):∃s1 b1 a1 n1 c1 s2 b2 a2 n2 c2,v=.agg #[.int .i64 s1,.bool b1,.slice a1 n1 c1,.int .i64 s2,.bool b2,.slice a2 n2 c2]∧IV w (.agg #[.int .i64 s1,.bool b1,.slice a1 n1 c1]) q.num∧IV w (.agg #[.int .i64 s2,.bool b2,.slice a2 n2 c2]) (denI q):=h
section
theorem ratIsInt_any (v:Value) (q:Rat) (w:World) (h:RV w v q):Calls Tryz.prog 57 #[v] w fun e w'=>e=.returned (.bool (decide (q.den=1)))∧Below w.heap.size w w':=by
  obtain ⟨s1,b1,a1,n1,c1,s2,b2,a2,n2,c2,rfl,h1,h2⟩:=rv_form h;have hz:=fun o=>isZero_any _ _ _ (h2.alloc_of o)
  rw[denI_zero] at hz;clear h h1 h2
  go_enter Tryz.func57,Tryz.ntmps57
  go_wp2_with fail
  refine (hz _).mono ?_;rintro e w1 ⟨rfl,hb1⟩
  go_wp2
  go_ret
  exact ⟨rfl,((Below.refl _ _).alloc (Nat.le_refl _) _).trans (hb1.mono (by simp))⟩
theorem ratSign_any (v:Value) (q:Rat) (w:World) (h:RV w v q):Calls Tryz.prog 194 #[v] w fun e w'=>e=.returned (.int .i64 (sgnI q.num))∧Below w.heap.size w w':=by
  obtain ⟨s1,b1,a1,n1,c1,s2,b2,a2,n2,c2,rfl,h1,h2⟩:=rv_form h;have hz:=fun o=>sign_any _ _ _ (h1.alloc_of o)
  clear h h1 h2
  go_enter Tryz.func194,Tryz.ntmps194
  go_wp2_with fail
  refine (hz _).mono ?_;rintro e w1 ⟨rfl,hb1⟩
  go_wp2
  go_ret
  exact ⟨rfl,((Below.refl _ _).alloc (Nat.le_refl _) _).trans (hb1.mono (by simp))⟩
theorem ratNum_any (v:Value) (q:Rat) (w:World) (h:RV w v q):Calls Tryz.prog 142 #[v] w (GetsI q.num w):=by
  obtain ⟨s1,b1,a1,n1,c1,s2,b2,a2,n2,c2,rfl,h1,h2⟩:=rv_form h;have H1:=Lib.hid h1;clear h h1 h2
  go_enter Tryz.func142,Tryz.ntmps142
  go_wp2
  have hbl:=below2 w (.cells #[.int .i64 s1,.bool b1,.slice a1 n1 c1,.int .i64 s2,.bool b2,.slice a2 n2 c2] 75) (.cells #[.int .i64 s1,.bool b1,.slice a1 n1 c1] 73);exact bodyPost_ret (v:=.agg #[.int .i64 s1,.bool b1,.slice a1 n1 c1]) (by simp[results,Tryz.results142,go_sem]) rfl ⟨_,rfl,H1.out.far hbl,hbl⟩

def GcdAt (l:List UInt8):Prop:=∀n d,canonF (upto l)=some n→canonF (behind l)=some d→1<d→GcdOk n d
structure Env (w:World):Prop where
  big:0<w.heap.size
  len:∃m:Int,w.cell? ⟨0,0,none⟩=some (.int .i64 m)
  tab:Lib.TabIs Tryz.prog w "internal/strconv.uint64pow10" .u64 Lib.pow10Tab
theorem Env.far {w w1:World} (h:Env w) (hb:Below w.heap.size w w1):Env w1:=
  ⟨Nat.lt_of_lt_of_le h.big hb.size,let ⟨m,hm⟩:=h.len;⟨m,(hb.cell (p:=⟨0,0,none⟩) h.big).trans hm⟩,Go.Joins.tab_stays (g:=3) (by kernel_rfl) h.tab hb (Nat.le_refl _)⟩
theorem parse_env (s:ByteArray) (w:World) (hs:s.size≤1000000) (h:Env w) (hg:GcdAt s.data.toList):Calls Tryz.prog 56 #[.string s] w (ParsePost s.data.toList w):=by
  obtain ⟨m,hm⟩:=h.len;exact parse_any m s w hs h.big hm hg

theorem numIsInt_any (s:ByteArray) (w:World) (hs:s.size≤1000000) (h:Env w) (hg:GcdAt s.data.toList):Calls Tryz.prog 32 #[.string s] w fun e w'=>e=.returned (.bool (match ratF s.data.toList with | some q=>decide (q.den=1) | none=>false))∧Below w.heap.size w w':=by
  have hp:=parse_env s w hs h hg;cases hq:ratF s.data.toList with
  | none=>
    unfold ParsePost at hp;rw[hq] at hp;clear hq
    go_enter Tryz.func32,Tryz.ntmps32
    go_wp2_with fail
    refine hp.mono ?_;rintro e w1 ⟨v,rfl,hv,hb1⟩;obtain ⟨s1,b1,a1,n1,c1,s2,b2,a2,n2,c2,rfl,h1,h2⟩:=rv_form hv;have HB:=Lib.hid hb1;clear hv h1 h2 hp hb1
    go_wp2_with fail
    go_ret
    exact ⟨rfl,HB.out.alloc HB.out.size _⟩
  | some q=>
    unfold ParsePost at hp;rw[hq] at hp;clear hq
    go_enter Tryz.func32,Tryz.ntmps32
    go_wp2_with fail
    refine hp.mono ?_;rintro e w1 ⟨v,rfl,hv,hb1⟩;have hi:=fun o=>ratIsInt_any v q (w1.alloc o) (hv.far ((Below.refl _ _).alloc (Nat.le_refl _) _))
    obtain ⟨s1,b1,a1,n1,c1,s2,b2,a2,n2,c2,rfl,h1,h2⟩:=rv_form hv;have HB:=Lib.hid hb1;clear hv h1 h2 hp hb1
    go_wp2_with fail
    refine (hi _).mono ?_;rintro e w2 ⟨rfl,hb2⟩;have HB2:=Lib.hid ((HB.out.alloc HB.out.size _).trans (hb2.mono (by have:=HB.out.size;simp;omega)));clear hb2 hi
    go_wp2_with fail
    go_ret
    exact ⟨rfl,HB2.out⟩
theorem numSign_any (s:ByteArray) (w:World) (hs:s.size≤1000000) (h:Env w) (hg:GcdAt s.data.toList):Calls Tryz.prog 155 #[.string s] w fun e w'=>e=.returned (.int .i64 (sgnI ((ratF s.data.toList).getD 0).num))∧Below w.heap.size w w':=by
  have hp:=parse_env s w hs h hg;unfold ParsePost at hp;generalize ratF s.data.toList=oq at *
  go_enter Tryz.func155,Tryz.ntmps155
  go_wp2_with fail
  refine hp.mono ?_;rintro e w1 ⟨v,rfl,hv,hb1⟩;have hi:=fun o=>ratSign_any v _ (w1.alloc o) (hv.far ((Below.refl _ _).alloc (Nat.le_refl _) _))
  obtain ⟨s1,b1,a1,n1,c1,s2,b2,a2,n2,c2,rfl,h1,h2⟩:=rv_form hv;have HB:=Lib.hid hb1;clear hv h1 h2 hp hb1
  go_wp2_with fail
  refine (hi _).mono ?_;rintro e w2 ⟨rfl,hb2⟩;have HB2:=Lib.hid ((HB.out.alloc HB.out.size _).trans (hb2.mono (by have:=HB.out.size;simp;omega)));clear hb2 hi
  go_wp2_with fail
  go_ret
  exact ⟨rfl,HB2.out⟩
end

theorem cell_set6 {w:World} {R g:Nat} (h:g≠R) (x0 x1 x2 x3 x4 x5:Value) (i:Nat):((((((w.setCell ⟨R,0,none⟩ x0).setCell ⟨R,1,none⟩ x1).setCell ⟨R,2,none⟩ x2).setCell ⟨R,3,none⟩ x3).setCell ⟨R,4,none⟩ x4).setCell ⟨R,5,none⟩ x5).cell? ⟨g,i,none⟩=w.cell? ⟨g,i,none⟩:=by
  apply World.cell?_of_block;exact set6_other h x0 x1 x2 x3 x4 x5
def Dozen (w:World) (g h:Nat) (x0 x1 x2 x3 x4 x5 y0 y1 y2 y3 y4 y5:Value):Prop:=
  w.cell? ⟨g,0,none⟩=some x0∧w.cell? ⟨g,1,none⟩=some x1∧w.cell? ⟨g,2,none⟩=some x2∧w.cell? ⟨g,3,none⟩=some x3∧w.cell? ⟨g,4,none⟩=some x4∧w.cell? ⟨g,5,none⟩=some x5∧w.cell? ⟨h,0,none⟩=some y0∧w.cell? ⟨h,1,none⟩=some y1∧w.cell? ⟨h,2,none⟩=some y2∧w.cell? ⟨h,3,none⟩=some y3∧w.cell? ⟨h,4,none⟩=some y4∧w.cell? ⟨h,5,none⟩=some y5
theorem Dozen.of {w:World} {g h:Nat} {x0 x1 x2 x3 x4 x5 y0 y1 y2 y3 y4 y5:Value} {t t':TypeId} (h1:w.heap[g]? =some (.cells #[x0,x1,x2,x3,x4,x5] t (0,0))) (h2:w.heap[h]? =some (.cells #[y0,y1,y2,y3,y4,y5] t' (0,0))):Dozen w g h x0 x1 x2 x3 x4 x5 y0 y1 y2 y3 y4 y5:=
  ⟨heap_cell h1 0,heap_cell h1 1,heap_cell h1 2,heap_cell h1 3,heap_cell h1 4,heap_cell h1 5,heap_cell h2 0,heap_cell h2 1,heap_cell h2 2,heap_cell h2 3,heap_cell h2 4,heap_cell h2 5⟩
theorem Dozen.set {w:World} {g h R:Nat} {x0 x1 x2 x3 x4 x5 y0 y1 y2 y3 y4 y5:Value} (k:Dozen w g h x0 x1 x2 x3 x4 x5 y0 y1 y2 y3 y4 y5) (hg:g≠R) (hh:h≠R) (z0 z1 z2 z3 z4 z5:Value):
    Dozen ((((((w.setCell ⟨R,0,none⟩ z0).setCell ⟨R,1,none⟩ z1).setCell ⟨R,2,none⟩ z2).setCell ⟨R,3,none⟩ z3).setCell ⟨R,4,none⟩ z4).setCell ⟨R,5,none⟩ z5) g h x0 x1 x2 x3 x4 x5 y0 y1 y2 y3 y4 y5:=by
  obtain ⟨k0,k1,k2,k3,k4,k5,l0,l1,l2,l3,l4,l5⟩:=k
  exact ⟨(cell_set6 hg _ _ _ _ _ _ 0).trans k0,(cell_set6 hg _ _ _ _ _ _ 1).trans k1,(cell_set6 hg _ _ _ _ _ _ 2).trans k2,(cell_set6 hg _ _ _ _ _ _ 3).trans k3,(cell_set6 hg _ _ _ _ _ _ 4).trans k4,(cell_set6 hg _ _ _ _ _ _ 5).trans k5,
    (cell_set6 hh _ _ _ _ _ _ 0).trans l0,(cell_set6 hh _ _ _ _ _ _ 1).trans l1,(cell_set6 hh _ _ _ _ _ _ 2).trans l2,(cell_set6 hh _ _ _ _ _ _ 3).trans l3,(cell_set6 hh _ _ _ _ _ _ 4).trans l4,(cell_set6 hh _ _ _ _ _ _ 5).trans l5⟩
theorem RV.heap_same {w w':World} {v:Value} {q:Rat} (h:RV w v q) {R:Nat} {cs:Array Value} {t:TypeId} {fr:Nat×Nat} (hR:w.heap[R]? =some (.cells cs t fr)) (ht:t≠207) (ho:∀k,k≠R→w'.heap[k]? =w.heap[k]?):RV w' v q:=
  let ⟨s1,b1,a1,n1,c1,s2,b2,a2,n2,c2,e,h1,h2⟩:=h
  ⟨s1,b1,a1,n1,c1,s2,b2,a2,n2,c2,e,h1.heap_same hR ht ho,h2.heap_same hR ht ho⟩

def PairPost (a b:Option Rat) (w:World) (e:Ending) (w':World):Prop:=∃v1 v2,e=.returned (.tuple #[v1,v2,.bool (a.isSome && b.isSome)])∧RV w' v1 (a.getD 0)∧RV w' v2 (b.getD 0)∧Below w.heap.size w w'
theorem end_pair {fn:Func} {t t' t2:Tmp} {a:Act} {w w4:World} {R R':Nat} {x0 x1 x2 x3 x4 x5 y0 y1 y2 y3 y4 y5:Value} {oa ob:Option Rat} (hres:fn.results=#[.cell t 75,.cell t' 75,.tmp t2]) (hd:a.defers=[])
    (ht:a.tmps.getD t undef=.pointer (some ⟨R,0,none⟩)) (ht':a.tmps.getD t' undef=.pointer (some ⟨R',0,none⟩)) (ht2:a.tmps.getD t2 undef=.bool (oa.isSome && ob.isSome))
    (h1:w4.heap[R]? =some (.cells #[x0,x1,x2,x3,x4,x5] 75 (0,0))) (h2:w4.heap[R']? =some (.cells #[y0,y1,y2,y3,y4,y5] 75 (0,0)))
    (hv:RV w4 (.agg #[x0,x1,x2,x3,x4,x5]) (oa.getD 0)) (hv':RV w4 (.agg #[y0,y1,y2,y3,y4,y5]) (ob.getD 0)) (hb:Below w.heap.size w w4):bodyPost Tryz.prog fn (PairPost oa ob w) .ret a w4:=by
  have k0:=heap_cell h1 0;have k1:=heap_cell h1 1;have k2:=heap_cell h1 2;have k3:=heap_cell h1 3;have k4:=heap_cell h1 4;have k5:=heap_cell h1 5;have l0:=heap_cell h2 0;have l1:=heap_cell h2 1;have l2:=heap_cell h2 2;have l3:=heap_cell h2 3;have l4:=heap_cell h2 4;have l5:=heap_cell h2 5
  simp at k0 k1 k2 k3 k4 k5 l0 l1 l2 l3 l4 l5
  refine bodyPost_ret (v:=.tuple #[.agg #[x0,x1,x2,x3,x4,x5],.agg #[y0,y1,y2,y3,y4,y5],.bool (oa.isSome && ob.isSome)]) ?_ hd ⟨_,_,rfl,hv,hv',hb⟩;have g1:a.tmps[t]?.getD undef=.pointer (some ⟨R,0,none⟩):=by simpa using ht
  have g2:a.tmps[t']?.getD undef=.pointer (some ⟨R',0,none⟩):=by simpa using ht'
  have g3:a.tmps[t2]?.getD undef=.bool (oa.isSome && ob.isSome):=by simpa using ht2
  simp[results,hres,go_sem,g1,g2,g3,k0,k1,k2,k3,k4,k5,l0,l1,l2,l3,l4,l5]

section
def ParseIs (s:ByteArray) (o:Option Rat):Prop:=∀W:World,Env W→Calls Tryz.prog 56 #[.string s] W fun e w'=>∃v,e=.returned (.tuple #[v,.bool o.isSome])∧RV w' v (o.getD 0)∧Below W.heap.size W w'
theorem pair_nn (s t:ByteArray) (w:World) (h:Env w) (hp:ParseIs s (none:Option Rat)) (hp':ParseIs t (none:Option Rat)):Calls Tryz.prog 88 #[.string s,.string t] w (PairPost (none:Option Rat) (none:Option Rat) w):=by
  have HB0:=Lib.hid (below2 w (.cells #[.int .i64 0,.bool false,.slice none 0 0,.int .i64 0,.bool false,.slice none 0 0] 75) (.cells #[.int .i64 0,.bool false,.slice none 0 0,.int .i64 0,.bool false,.slice none 0 0] 75));have HE:=Lib.hid h;clear h
  go_enter Tryz.func88,Tryz.ntmps88
  go_wp2_with fail
  refine (hp _ (HE.out.far HB0.out)).mono ?_;rintro e w1 ⟨v1,rfl,hv1,hb1⟩;have HV1:=Lib.hid hv1;obtain ⟨s1,b1,a1,n1,c1,s2,b2,a2,n2,c2,rfl,-,-⟩:=rv_form hv1;have HR1:=Lib.hid ((hb1.block w.heap.size (by simp;omega)).trans ((Below.heap_alloc _ _ _ (by simp)).trans (heap_alloc_new w _)));have HR2:=Lib.hid ((hb1.block (w.heap.size+1) (by simp)).trans (new_second w _ _));have HB1:=Lib.hid (HB0.out.trans (hb1.mono (by simp;omega)));clear hb1 hv1 hp HB0;have HBA:=Lib.hid (HB1.out.alloc HB1.out.size (.cells #[.int .i64 s1,.bool b1,.slice a1 n1 c1,.int .i64 s2,.bool b2,.slice a2 n2 c2] 75))
  go_wp2_with fail
  refine (hp' _ (HE.out.far HBA.out)).mono ?_;rintro e w2 ⟨v2,rfl,hv2,hb2⟩;have HV2:=Lib.hid hv2;obtain ⟨s3,b3,a3,n3,c3,s4,b4,a4,n4,c4,rfl,-,-⟩:=rv_form hv2;have HA2:=Lib.hid ((hb2.block w1.heap.size (by simp)).trans (heap_alloc_new w1 _));have HV12:=Lib.hid ((HV1.out.far ((Below.refl _ _).alloc (Nat.le_refl _) _)).far hb2);have hl1:=lt_of_heap HR1.out;have hl2:=lt_of_heap HR2.out;have HR12:=Lib.hid ((hb2.block w.heap.size (by simp;omega)).trans ((Below.heap_alloc _ _ _ hl1).trans HR1.out));have HR22:=Lib.hid ((hb2.block (w.heap.size+1) (by simp;omega)).trans ((Below.heap_alloc _ _ _ hl2).trans HR2.out));have HB2:=Lib.hid (HBA.out.trans (hb2.mono HBA.out.size));have hlw:=hb2.size
  simp at hlw
  clear hb2 hv2 hp' HBA HR1 HR2 HV1 HB1
  have K0:Dozen (w2.alloc (.cells #[.int .i64 s3,.bool b3,.slice a3 n3 c3,.int .i64 s4,.bool b4,.slice a4 n4 c4] 75)) w1.heap.size w2.heap.size (.int .i64 s1) (.bool b1) (.slice a1 n1 c1) (.int .i64 s2) (.bool b2) (.slice a2 n2 c2) (.int .i64 s3) (.bool b3) (.slice a3 n3 c3) (.int .i64 s4) (.bool b4) (.slice a4 n4 c4):=
    Dozen.of ((Below.heap_alloc _ _ _ (lt_of_heap HA2.out)).trans HA2.out) (heap_alloc_new w2 _)
  have HX:Hid ((w2.alloc (.cells #[.int .i64 s3,.bool b3,.slice a3 n3 c3,.int .i64 s4,.bool b4,.slice a4 n4 c4] 75)).heap[w.heap.size]? =some (.cells #[.int .i64 0,.bool false,.slice none 0 0,.int .i64 0,.bool false,.slice none 0 0] 75 (0,0))):=Lib.hid ((Below.heap_alloc _ _ _ (lt_of_heap HR12.out)).trans HR12.out);have HY:Hid ((w2.alloc (.cells #[.int .i64 s3,.bool b3,.slice a3 n3 c3,.int .i64 s4,.bool b4,.slice a4 n4 c4] 75)).heap[w.heap.size+1]? =some (.cells #[.int .i64 0,.bool false,.slice none 0 0,.int .i64 0,.bool false,.slice none 0 0] 75 (0,0))):=Lib.hid ((Below.heap_alloc _ _ _ (lt_of_heap HR22.out)).trans HR22.out);have HV3:=Lib.hid (HV12.out.far ((Below.refl w2.heap.size w2).alloc (Nat.le_refl _) (.cells #[.int .i64 s3,.bool b3,.slice a3 n3 c3,.int .i64 s4,.bool b4,.slice a4 n4 c4] 75)));have HV4:=Lib.hid (HV2.out.far ((Below.refl w2.heap.size w2).alloc (Nat.le_refl _) (.cells #[.int .i64 s3,.bool b3,.slice a3 n3 c3,.int .i64 s4,.bool b4,.slice a4 n4 c4] 75)));have HB3:=Lib.hid (HB2.out.alloc HB2.out.size (.cells #[.int .i64 s3,.bool b3,.slice a3 n3 c3,.int .i64 s4,.bool b4,.slice a4 n4 c4] 75));have KD:=Lib.hid K0;obtain ⟨k0,k1,k2,k3,k4,k5,l0,l1,l2,l3,l4,l5⟩:=K0;clear HR12 HR22 HA2 HV12 HV2 HB2 KD
  go_wp2_with fail
  generalize hW3:w2.alloc (.cells #[.int .i64 s3,.bool b3,.slice a3 n3 c3,.int .i64 s4,.bool b4,.slice a4 n4 c4] 75)=W3 at *;clear hW3;obtain ⟨⟨r0,r1,r2,r3,r4,r5⟩,fr⟩:=ResR.cells HX.out;obtain ⟨⟨q0,q1,q2,q3,q4,q5⟩,fq⟩:=ResR.cells HY.out;have fr0:=fr 0;have fr1:=fr 1;have fr2:=fr 2;have fr3:=fr 3;have fr4:=fr 4;have fr5:=fr 5;have fq0:=fq 0;have fq1:=fq 1;have fq2:=fq 2;have fq3:=fq 3;have fq4:=fq 4;have fq5:=fq 5;have ne1:w1.heap.size≠w.heap.size:=by omega
  have ne2:w2.heap.size≠w.heap.size:=by omega
  have ne3:w1.heap.size≠w.heap.size+1:=by omega
  have ne4:w2.heap.size≠w.heap.size+1:=by omega
  clear fr fq
  go_region
  go_wp2
  have e1:=set6_heap HX.out (.int .i64 s1) (.bool b1) (.slice a1 n1 c1) (.int .i64 s2) (.bool b2) (.slice a2 n2 c2);have e2:=(set6_other (w:=W3) (R:=w.heap.size) (g:=w.heap.size+1) (by omega) (.int .i64 s1) (.bool b1) (.slice a1 n1 c1) (.int .i64 s2) (.bool b2) (.slice a2 n2 c2)).trans HY.out;have e3:=set6_heap e2 (.int .i64 s3) (.bool b3) (.slice a3 n3 c3) (.int .i64 s4) (.bool b4) (.slice a4 n4 c4);have e4:=(set6_other (w:=set6 W3 w.heap.size (.int .i64 s1) (.bool b1) (.slice a1 n1 c1) (.int .i64 s2) (.bool b2) (.slice a2 n2 c2)) (R:=w.heap.size+1) (g:=w.heap.size) (by omega) (.int .i64 s3) (.bool b3) (.slice a3 n3 c3) (.int .i64 s4) (.bool b4) (.slice a4 n4 c4)).trans e1;have v3:=(HV3.out.heap_same HX.out (by decide) (fun k hk=>set6_other hk (.int .i64 s1) (.bool b1) (.slice a1 n1 c1) (.int .i64 s2) (.bool b2) (.slice a2 n2 c2))).heap_same e2 (by decide) (fun k hk=>set6_other hk (.int .i64 s3) (.bool b3) (.slice a3 n3 c3) (.int .i64 s4) (.bool b4) (.slice a4 n4 c4));have v4:=(HV4.out.heap_same HX.out (by decide) (fun k hk=>set6_other hk (.int .i64 s1) (.bool b1) (.slice a1 n1 c1) (.int .i64 s2) (.bool b2) (.slice a2 n2 c2))).heap_same e2 (by decide) (fun k hk=>set6_other hk (.int .i64 s3) (.bool b3) (.slice a3 n3 c3) (.int .i64 s4) (.bool b4) (.slice a4 n4 c4));have bl:=set6_below (set6_below HB3.out (Nat.le_refl _) (.int .i64 s1) (.bool b1) (.slice a1 n1 c1) (.int .i64 s2) (.bool b2) (.slice a2 n2 c2)) (Nat.le_succ _) (.int .i64 s3) (.bool b3) (.slice a3 n3 c3) (.int .i64 s4) (.bool b4) (.slice a4 n4 c4)
  show bodyPost _ _ _ _ _ ((set6 (set6 W3 w.heap.size (.int .i64 s1) (.bool b1) (.slice a1 n1 c1) (.int .i64 s2) (.bool b2) (.slice a2 n2 c2)) (w.heap.size+1) (.int .i64 s3) (.bool b3) (.slice a3 n3 c3) (.int .i64 s4) (.bool b4) (.slice a4 n4 c4)).drew);generalize set6 (set6 W3 w.heap.size (.int .i64 s1) (.bool b1) (.slice a1 n1 c1) (.int .i64 s2) (.bool b2) (.slice a2 n2 c2)) (w.heap.size+1) (.int .i64 s3) (.bool b3) (.slice a3 n3 c3) (.int .i64 s4) (.bool b4) (.slice a4 n4 c4)=W5 at *;have f3:W5.drew.heap[w.heap.size+1]? =_:=e3;have f4:W5.drew.heap[w.heap.size]? =_:=e4;have g3:RV W5.drew _ _:=v3.far (below_drewN (Below.refl _ _) 1);have g4:RV W5.drew _ _:=v4.far (below_drewN (Below.refl _ _) 1);have gb:Below w.heap.size w W5.drew:=below_drewN bl 1;clear e1 e2 e3 e4 v3 v4 bl;generalize W5.drew=W6 at *;exact end_pair Tryz.results88 rfl rfl rfl rfl f4 f3 g3 g4 gb
theorem pair_ns {q:Rat} (s t:ByteArray) (w:World) (h:Env w) (hp:ParseIs s (none:Option Rat)) (hp':ParseIs t (some q)):Calls Tryz.prog 88 #[.string s,.string t] w (PairPost (none:Option Rat) (some q) w):=by
  have HB0:=Lib.hid (below2 w (.cells #[.int .i64 0,.bool false,.slice none 0 0,.int .i64 0,.bool false,.slice none 0 0] 75) (.cells #[.int .i64 0,.bool false,.slice none 0 0,.int .i64 0,.bool false,.slice none 0 0] 75));have HE:=Lib.hid h;clear h
  go_enter Tryz.func88,Tryz.ntmps88
  go_wp2_with fail
  refine (hp _ (HE.out.far HB0.out)).mono ?_;rintro e w1 ⟨v1,rfl,hv1,hb1⟩;have HV1:=Lib.hid hv1;obtain ⟨s1,b1,a1,n1,c1,s2,b2,a2,n2,c2,rfl,-,-⟩:=rv_form hv1;have HR1:=Lib.hid ((hb1.block w.heap.size (by simp;omega)).trans ((Below.heap_alloc _ _ _ (by simp)).trans (heap_alloc_new w _)));have HR2:=Lib.hid ((hb1.block (w.heap.size+1) (by simp)).trans (new_second w _ _));have HB1:=Lib.hid (HB0.out.trans (hb1.mono (by simp;omega)));clear hb1 hv1 hp HB0;have HBA:=Lib.hid (HB1.out.alloc HB1.out.size (.cells #[.int .i64 s1,.bool b1,.slice a1 n1 c1,.int .i64 s2,.bool b2,.slice a2 n2 c2] 75))
  go_wp2_with fail
  refine (hp' _ (HE.out.far HBA.out)).mono ?_;rintro e w2 ⟨v2,rfl,hv2,hb2⟩;have HV2:=Lib.hid hv2;obtain ⟨s3,b3,a3,n3,c3,s4,b4,a4,n4,c4,rfl,-,-⟩:=rv_form hv2;have HA2:=Lib.hid ((hb2.block w1.heap.size (by simp)).trans (heap_alloc_new w1 _));have HV12:=Lib.hid ((HV1.out.far ((Below.refl _ _).alloc (Nat.le_refl _) _)).far hb2);have hl1:=lt_of_heap HR1.out;have hl2:=lt_of_heap HR2.out;have HR12:=Lib.hid ((hb2.block w.heap.size (by simp;omega)).trans ((Below.heap_alloc _ _ _ hl1).trans HR1.out));have HR22:=Lib.hid ((hb2.block (w.heap.size+1) (by simp;omega)).trans ((Below.heap_alloc _ _ _ hl2).trans HR2.out));have HB2:=Lib.hid (HBA.out.trans (hb2.mono HBA.out.size));have hlw:=hb2.size
  simp at hlw
  clear hb2 hv2 hp' HBA HR1 HR2 HV1 HB1
  have K0:Dozen (w2.alloc (.cells #[.int .i64 s3,.bool b3,.slice a3 n3 c3,.int .i64 s4,.bool b4,.slice a4 n4 c4] 75)) w1.heap.size w2.heap.size (.int .i64 s1) (.bool b1) (.slice a1 n1 c1) (.int .i64 s2) (.bool b2) (.slice a2 n2 c2) (.int .i64 s3) (.bool b3) (.slice a3 n3 c3) (.int .i64 s4) (.bool b4) (.slice a4 n4 c4):=
    Dozen.of ((Below.heap_alloc _ _ _ (lt_of_heap HA2.out)).trans HA2.out) (heap_alloc_new w2 _)
  have HX:Hid ((w2.alloc (.cells #[.int .i64 s3,.bool b3,.slice a3 n3 c3,.int .i64 s4,.bool b4,.slice a4 n4 c4] 75)).heap[w.heap.size]? =some (.cells #[.int .i64 0,.bool false,.slice none 0 0,.int .i64 0,.bool false,.slice none 0 0] 75 (0,0))):=Lib.hid ((Below.heap_alloc _ _ _ (lt_of_heap HR12.out)).trans HR12.out);have HY:Hid ((w2.alloc (.cells #[.int .i64 s3,.bool b3,.slice a3 n3 c3,.int .i64 s4,.bool b4,.slice a4 n4 c4] 75)).heap[w.heap.size+1]? =some (.cells #[.int .i64 0,.bool false,.slice none 0 0,.int .i64 0,.bool false,.slice none 0 0] 75 (0,0))):=Lib.hid ((Below.heap_alloc _ _ _ (lt_of_heap HR22.out)).trans HR22.out);have HV3:=Lib.hid (HV12.out.far ((Below.refl w2.heap.size w2).alloc (Nat.le_refl _) (.cells #[.int .i64 s3,.bool b3,.slice a3 n3 c3,.int .i64 s4,.bool b4,.slice a4 n4 c4] 75)));have HV4:=Lib.hid (HV2.out.far ((Below.refl w2.heap.size w2).alloc (Nat.le_refl _) (.cells #[.int .i64 s3,.bool b3,.slice a3 n3 c3,.int .i64 s4,.bool b4,.slice a4 n4 c4] 75)));have HB3:=Lib.hid (HB2.out.alloc HB2.out.size (.cells #[.int .i64 s3,.bool b3,.slice a3 n3 c3,.int .i64 s4,.bool b4,.slice a4 n4 c4] 75));have KD:=Lib.hid K0;obtain ⟨k0,k1,k2,k3,k4,k5,l0,l1,l2,l3,l4,l5⟩:=K0;clear HR12 HR22 HA2 HV12 HV2 HB2 KD
  go_wp2_with fail
  generalize hW3:w2.alloc (.cells #[.int .i64 s3,.bool b3,.slice a3 n3 c3,.int .i64 s4,.bool b4,.slice a4 n4 c4] 75)=W3 at *;clear hW3;obtain ⟨⟨r0,r1,r2,r3,r4,r5⟩,fr⟩:=ResR.cells HX.out;obtain ⟨⟨q0,q1,q2,q3,q4,q5⟩,fq⟩:=ResR.cells HY.out;have fr0:=fr 0;have fr1:=fr 1;have fr2:=fr 2;have fr3:=fr 3;have fr4:=fr 4;have fr5:=fr 5;have fq0:=fq 0;have fq1:=fq 1;have fq2:=fq 2;have fq3:=fq 3;have fq4:=fq 4;have fq5:=fq 5;have ne1:w1.heap.size≠w.heap.size:=by omega
  have ne2:w2.heap.size≠w.heap.size:=by omega
  have ne3:w1.heap.size≠w.heap.size+1:=by omega
  have ne4:w2.heap.size≠w.heap.size+1:=by omega
  clear fr fq
  go_region
  go_wp2
  have e1:=set6_heap HX.out (.int .i64 s1) (.bool b1) (.slice a1 n1 c1) (.int .i64 s2) (.bool b2) (.slice a2 n2 c2);have e2:=(set6_other (w:=W3) (R:=w.heap.size) (g:=w.heap.size+1) (by omega) (.int .i64 s1) (.bool b1) (.slice a1 n1 c1) (.int .i64 s2) (.bool b2) (.slice a2 n2 c2)).trans HY.out;have e3:=set6_heap e2 (.int .i64 s3) (.bool b3) (.slice a3 n3 c3) (.int .i64 s4) (.bool b4) (.slice a4 n4 c4);have e4:=(set6_other (w:=set6 W3 w.heap.size (.int .i64 s1) (.bool b1) (.slice a1 n1 c1) (.int .i64 s2) (.bool b2) (.slice a2 n2 c2)) (R:=w.heap.size+1) (g:=w.heap.size) (by omega) (.int .i64 s3) (.bool b3) (.slice a3 n3 c3) (.int .i64 s4) (.bool b4) (.slice a4 n4 c4)).trans e1;have v3:=(HV3.out.heap_same HX.out (by decide) (fun k hk=>set6_other hk (.int .i64 s1) (.bool b1) (.slice a1 n1 c1) (.int .i64 s2) (.bool b2) (.slice a2 n2 c2))).heap_same e2 (by decide) (fun k hk=>set6_other hk (.int .i64 s3) (.bool b3) (.slice a3 n3 c3) (.int .i64 s4) (.bool b4) (.slice a4 n4 c4));have v4:=(HV4.out.heap_same HX.out (by decide) (fun k hk=>set6_other hk (.int .i64 s1) (.bool b1) (.slice a1 n1 c1) (.int .i64 s2) (.bool b2) (.slice a2 n2 c2))).heap_same e2 (by decide) (fun k hk=>set6_other hk (.int .i64 s3) (.bool b3) (.slice a3 n3 c3) (.int .i64 s4) (.bool b4) (.slice a4 n4 c4));have bl:=set6_below (set6_below HB3.out (Nat.le_refl _) (.int .i64 s1) (.bool b1) (.slice a1 n1 c1) (.int .i64 s2) (.bool b2) (.slice a2 n2 c2)) (Nat.le_succ _) (.int .i64 s3) (.bool b3) (.slice a3 n3 c3) (.int .i64 s4) (.bool b4) (.slice a4 n4 c4)
  show bodyPost _ _ _ _ _ ((set6 (set6 W3 w.heap.size (.int .i64 s1) (.bool b1) (.slice a1 n1 c1) (.int .i64 s2) (.bool b2) (.slice a2 n2 c2)) (w.heap.size+1) (.int .i64 s3) (.bool b3) (.slice a3 n3 c3) (.int .i64 s4) (.bool b4) (.slice a4 n4 c4)).drew);generalize set6 (set6 W3 w.heap.size (.int .i64 s1) (.bool b1) (.slice a1 n1 c1) (.int .i64 s2) (.bool b2) (.slice a2 n2 c2)) (w.heap.size+1) (.int .i64 s3) (.bool b3) (.slice a3 n3 c3) (.int .i64 s4) (.bool b4) (.slice a4 n4 c4)=W5 at *;have f3:W5.drew.heap[w.heap.size+1]? =_:=e3;have f4:W5.drew.heap[w.heap.size]? =_:=e4;have g3:RV W5.drew _ _:=v3.far (below_drewN (Below.refl _ _) 1);have g4:RV W5.drew _ _:=v4.far (below_drewN (Below.refl _ _) 1);have gb:Below w.heap.size w W5.drew:=below_drewN bl 1;clear e1 e2 e3 e4 v3 v4 bl;generalize W5.drew=W6 at *;exact end_pair Tryz.results88 rfl rfl rfl rfl f4 f3 g3 g4 gb
theorem pair_sn {p:Rat} (s t:ByteArray) (w:World) (h:Env w) (hp:ParseIs s (some p)) (hp':ParseIs t (none:Option Rat)):Calls Tryz.prog 88 #[.string s,.string t] w (PairPost (some p) (none:Option Rat) w):=by
  have HB0:=Lib.hid (below2 w (.cells #[.int .i64 0,.bool false,.slice none 0 0,.int .i64 0,.bool false,.slice none 0 0] 75) (.cells #[.int .i64 0,.bool false,.slice none 0 0,.int .i64 0,.bool false,.slice none 0 0] 75));have HE:=Lib.hid h;clear h
  go_enter Tryz.func88,Tryz.ntmps88
  go_wp2_with fail
  refine (hp _ (HE.out.far HB0.out)).mono ?_;rintro e w1 ⟨v1,rfl,hv1,hb1⟩;have HV1:=Lib.hid hv1;obtain ⟨s1,b1,a1,n1,c1,s2,b2,a2,n2,c2,rfl,-,-⟩:=rv_form hv1;have HR1:=Lib.hid ((hb1.block w.heap.size (by simp;omega)).trans ((Below.heap_alloc _ _ _ (by simp)).trans (heap_alloc_new w _)));have HR2:=Lib.hid ((hb1.block (w.heap.size+1) (by simp)).trans (new_second w _ _));have HB1:=Lib.hid (HB0.out.trans (hb1.mono (by simp;omega)));clear hb1 hv1 hp HB0;have HBA:=Lib.hid (HB1.out.alloc HB1.out.size (.cells #[.int .i64 s1,.bool b1,.slice a1 n1 c1,.int .i64 s2,.bool b2,.slice a2 n2 c2] 75))
  go_wp2_with fail
  refine (hp' _ (HE.out.far HBA.out)).mono ?_;rintro e w2 ⟨v2,rfl,hv2,hb2⟩;have HV2:=Lib.hid hv2;obtain ⟨s3,b3,a3,n3,c3,s4,b4,a4,n4,c4,rfl,-,-⟩:=rv_form hv2;have HA2:=Lib.hid ((hb2.block w1.heap.size (by simp)).trans (heap_alloc_new w1 _));have HV12:=Lib.hid ((HV1.out.far ((Below.refl _ _).alloc (Nat.le_refl _) _)).far hb2);have hl1:=lt_of_heap HR1.out;have hl2:=lt_of_heap HR2.out;have HR12:=Lib.hid ((hb2.block w.heap.size (by simp;omega)).trans ((Below.heap_alloc _ _ _ hl1).trans HR1.out));have HR22:=Lib.hid ((hb2.block (w.heap.size+1) (by simp;omega)).trans ((Below.heap_alloc _ _ _ hl2).trans HR2.out));have HB2:=Lib.hid (HBA.out.trans (hb2.mono HBA.out.size));have hlw:=hb2.size
  simp at hlw
  clear hb2 hv2 hp' HBA HR1 HR2 HV1 HB1
  have K0:Dozen (w2.alloc (.cells #[.int .i64 s3,.bool b3,.slice a3 n3 c3,.int .i64 s4,.bool b4,.slice a4 n4 c4] 75)) w1.heap.size w2.heap.size (.int .i64 s1) (.bool b1) (.slice a1 n1 c1) (.int .i64 s2) (.bool b2) (.slice a2 n2 c2) (.int .i64 s3) (.bool b3) (.slice a3 n3 c3) (.int .i64 s4) (.bool b4) (.slice a4 n4 c4):=
    Dozen.of ((Below.heap_alloc _ _ _ (lt_of_heap HA2.out)).trans HA2.out) (heap_alloc_new w2 _)
  have HX:Hid ((w2.alloc (.cells #[.int .i64 s3,.bool b3,.slice a3 n3 c3,.int .i64 s4,.bool b4,.slice a4 n4 c4] 75)).heap[w.heap.size]? =some (.cells #[.int .i64 0,.bool false,.slice none 0 0,.int .i64 0,.bool false,.slice none 0 0] 75 (0,0))):=Lib.hid ((Below.heap_alloc _ _ _ (lt_of_heap HR12.out)).trans HR12.out);have HY:Hid ((w2.alloc (.cells #[.int .i64 s3,.bool b3,.slice a3 n3 c3,.int .i64 s4,.bool b4,.slice a4 n4 c4] 75)).heap[w.heap.size+1]? =some (.cells #[.int .i64 0,.bool false,.slice none 0 0,.int .i64 0,.bool false,.slice none 0 0] 75 (0,0))):=Lib.hid ((Below.heap_alloc _ _ _ (lt_of_heap HR22.out)).trans HR22.out);have HV3:=Lib.hid (HV12.out.far ((Below.refl w2.heap.size w2).alloc (Nat.le_refl _) (.cells #[.int .i64 s3,.bool b3,.slice a3 n3 c3,.int .i64 s4,.bool b4,.slice a4 n4 c4] 75)));have HV4:=Lib.hid (HV2.out.far ((Below.refl w2.heap.size w2).alloc (Nat.le_refl _) (.cells #[.int .i64 s3,.bool b3,.slice a3 n3 c3,.int .i64 s4,.bool b4,.slice a4 n4 c4] 75)));have HB3:=Lib.hid (HB2.out.alloc HB2.out.size (.cells #[.int .i64 s3,.bool b3,.slice a3 n3 c3,.int .i64 s4,.bool b4,.slice a4 n4 c4] 75));have KD:=Lib.hid K0;obtain ⟨k0,k1,k2,k3,k4,k5,l0,l1,l2,l3,l4,l5⟩:=K0;clear HR12 HR22 HA2 HV12 HV2 HB2 KD
  go_wp2_with fail
  generalize hW3:w2.alloc (.cells #[.int .i64 s3,.bool b3,.slice a3 n3 c3,.int .i64 s4,.bool b4,.slice a4 n4 c4] 75)=W3 at *;clear hW3;obtain ⟨⟨r0,r1,r2,r3,r4,r5⟩,fr⟩:=ResR.cells HX.out;obtain ⟨⟨q0,q1,q2,q3,q4,q5⟩,fq⟩:=ResR.cells HY.out;have fr0:=fr 0;have fr1:=fr 1;have fr2:=fr 2;have fr3:=fr 3;have fr4:=fr 4;have fr5:=fr 5;have fq0:=fq 0;have fq1:=fq 1;have fq2:=fq 2;have fq3:=fq 3;have fq4:=fq 4;have fq5:=fq 5;have ne1:w1.heap.size≠w.heap.size:=by omega
  have ne2:w2.heap.size≠w.heap.size:=by omega
  have ne3:w1.heap.size≠w.heap.size+1:=by omega
  have ne4:w2.heap.size≠w.heap.size+1:=by omega
  clear fr fq
  go_region
  go_wp2
  have e1:=set6_heap HX.out (.int .i64 s1) (.bool b1) (.slice a1 n1 c1) (.int .i64 s2) (.bool b2) (.slice a2 n2 c2);have e2:=(set6_other (w:=W3) (R:=w.heap.size) (g:=w.heap.size+1) (by omega) (.int .i64 s1) (.bool b1) (.slice a1 n1 c1) (.int .i64 s2) (.bool b2) (.slice a2 n2 c2)).trans HY.out;have e3:=set6_heap e2 (.int .i64 s3) (.bool b3) (.slice a3 n3 c3) (.int .i64 s4) (.bool b4) (.slice a4 n4 c4);have e4:=(set6_other (w:=set6 W3 w.heap.size (.int .i64 s1) (.bool b1) (.slice a1 n1 c1) (.int .i64 s2) (.bool b2) (.slice a2 n2 c2)) (R:=w.heap.size+1) (g:=w.heap.size) (by omega) (.int .i64 s3) (.bool b3) (.slice a3 n3 c3) (.int .i64 s4) (.bool b4) (.slice a4 n4 c4)).trans e1;have v3:=(HV3.out.heap_same HX.out (by decide) (fun k hk=>set6_other hk (.int .i64 s1) (.bool b1) (.slice a1 n1 c1) (.int .i64 s2) (.bool b2) (.slice a2 n2 c2))).heap_same e2 (by decide) (fun k hk=>set6_other hk (.int .i64 s3) (.bool b3) (.slice a3 n3 c3) (.int .i64 s4) (.bool b4) (.slice a4 n4 c4));have v4:=(HV4.out.heap_same HX.out (by decide) (fun k hk=>set6_other hk (.int .i64 s1) (.bool b1) (.slice a1 n1 c1) (.int .i64 s2) (.bool b2) (.slice a2 n2 c2))).heap_same e2 (by decide) (fun k hk=>set6_other hk (.int .i64 s3) (.bool b3) (.slice a3 n3 c3) (.int .i64 s4) (.bool b4) (.slice a4 n4 c4));have bl:=set6_below (set6_below HB3.out (Nat.le_refl _) (.int .i64 s1) (.bool b1) (.slice a1 n1 c1) (.int .i64 s2) (.bool b2) (.slice a2 n2 c2)) (Nat.le_succ _) (.int .i64 s3) (.bool b3) (.slice a3 n3 c3) (.int .i64 s4) (.bool b4) (.slice a4 n4 c4)
  show bodyPost _ _ _ _ _ ((set6 (set6 W3 w.heap.size (.int .i64 s1) (.bool b1) (.slice a1 n1 c1) (.int .i64 s2) (.bool b2) (.slice a2 n2 c2)) (w.heap.size+1) (.int .i64 s3) (.bool b3) (.slice a3 n3 c3) (.int .i64 s4) (.bool b4) (.slice a4 n4 c4)).drew);generalize set6 (set6 W3 w.heap.size (.int .i64 s1) (.bool b1) (.slice a1 n1 c1) (.int .i64 s2) (.bool b2) (.slice a2 n2 c2)) (w.heap.size+1) (.int .i64 s3) (.bool b3) (.slice a3 n3 c3) (.int .i64 s4) (.bool b4) (.slice a4 n4 c4)=W5 at *;have f3:W5.drew.heap[w.heap.size+1]? =_:=e3;have f4:W5.drew.heap[w.heap.size]? =_:=e4;have g3:RV W5.drew _ _:=v3.far (below_drewN (Below.refl _ _) 1);have g4:RV W5.drew _ _:=v4.far (below_drewN (Below.refl _ _) 1);have gb:Below w.heap.size w W5.drew:=below_drewN bl 1;clear e1 e2 e3 e4 v3 v4 bl;generalize W5.drew=W6 at *;exact end_pair Tryz.results88 rfl rfl rfl rfl f4 f3 g3 g4 gb
theorem pair_ss {p q:Rat} (s t:ByteArray) (w:World) (h:Env w) (hp:ParseIs s (some p)) (hp':ParseIs t (some q)):Calls Tryz.prog 88 #[.string s,.string t] w (PairPost (some p) (some q) w):=by
  have HB0:=Lib.hid (below2 w (.cells #[.int .i64 0,.bool false,.slice none 0 0,.int .i64 0,.bool false,.slice none 0 0] 75) (.cells #[.int .i64 0,.bool false,.slice none 0 0,.int .i64 0,.bool false,.slice none 0 0] 75));have HE:=Lib.hid h;clear h
  go_enter Tryz.func88,Tryz.ntmps88
  go_wp2_with fail
  refine (hp _ (HE.out.far HB0.out)).mono ?_;rintro e w1 ⟨v1,rfl,hv1,hb1⟩;have HV1:=Lib.hid hv1;obtain ⟨s1,b1,a1,n1,c1,s2,b2,a2,n2,c2,rfl,-,-⟩:=rv_form hv1;have HR1:=Lib.hid ((hb1.block w.heap.size (by simp;omega)).trans ((Below.heap_alloc _ _ _ (by simp)).trans (heap_alloc_new w _)));have HR2:=Lib.hid ((hb1.block (w.heap.size+1) (by simp)).trans (new_second w _ _));have HB1:=Lib.hid (HB0.out.trans (hb1.mono (by simp;omega)));clear hb1 hv1 hp HB0;have HBA:=Lib.hid (HB1.out.alloc HB1.out.size (.cells #[.int .i64 s1,.bool b1,.slice a1 n1 c1,.int .i64 s2,.bool b2,.slice a2 n2 c2] 75))
  go_wp2_with fail
  refine (hp' _ (HE.out.far HBA.out)).mono ?_;rintro e w2 ⟨v2,rfl,hv2,hb2⟩;have HV2:=Lib.hid hv2;obtain ⟨s3,b3,a3,n3,c3,s4,b4,a4,n4,c4,rfl,-,-⟩:=rv_form hv2;have HA2:=Lib.hid ((hb2.block w1.heap.size (by simp)).trans (heap_alloc_new w1 _));have HV12:=Lib.hid ((HV1.out.far ((Below.refl _ _).alloc (Nat.le_refl _) _)).far hb2);have hl1:=lt_of_heap HR1.out;have hl2:=lt_of_heap HR2.out;have HR12:=Lib.hid ((hb2.block w.heap.size (by simp;omega)).trans ((Below.heap_alloc _ _ _ hl1).trans HR1.out));have HR22:=Lib.hid ((hb2.block (w.heap.size+1) (by simp;omega)).trans ((Below.heap_alloc _ _ _ hl2).trans HR2.out));have HB2:=Lib.hid (HBA.out.trans (hb2.mono HBA.out.size));have hlw:=hb2.size
  simp at hlw
  clear hb2 hv2 hp' HBA HR1 HR2 HV1 HB1
  have K0:Dozen (w2.alloc (.cells #[.int .i64 s3,.bool b3,.slice a3 n3 c3,.int .i64 s4,.bool b4,.slice a4 n4 c4] 75)) w1.heap.size w2.heap.size (.int .i64 s1) (.bool b1) (.slice a1 n1 c1) (.int .i64 s2) (.bool b2) (.slice a2 n2 c2) (.int .i64 s3) (.bool b3) (.slice a3 n3 c3) (.int .i64 s4) (.bool b4) (.slice a4 n4 c4):=
    Dozen.of ((Below.heap_alloc _ _ _ (lt_of_heap HA2.out)).trans HA2.out) (heap_alloc_new w2 _)
  have HX:Hid ((w2.alloc (.cells #[.int .i64 s3,.bool b3,.slice a3 n3 c3,.int .i64 s4,.bool b4,.slice a4 n4 c4] 75)).heap[w.heap.size]? =some (.cells #[.int .i64 0,.bool false,.slice none 0 0,.int .i64 0,.bool false,.slice none 0 0] 75 (0,0))):=Lib.hid ((Below.heap_alloc _ _ _ (lt_of_heap HR12.out)).trans HR12.out);have HY:Hid ((w2.alloc (.cells #[.int .i64 s3,.bool b3,.slice a3 n3 c3,.int .i64 s4,.bool b4,.slice a4 n4 c4] 75)).heap[w.heap.size+1]? =some (.cells #[.int .i64 0,.bool false,.slice none 0 0,.int .i64 0,.bool false,.slice none 0 0] 75 (0,0))):=Lib.hid ((Below.heap_alloc _ _ _ (lt_of_heap HR22.out)).trans HR22.out);have HV3:=Lib.hid (HV12.out.far ((Below.refl w2.heap.size w2).alloc (Nat.le_refl _) (.cells #[.int .i64 s3,.bool b3,.slice a3 n3 c3,.int .i64 s4,.bool b4,.slice a4 n4 c4] 75)));have HV4:=Lib.hid (HV2.out.far ((Below.refl w2.heap.size w2).alloc (Nat.le_refl _) (.cells #[.int .i64 s3,.bool b3,.slice a3 n3 c3,.int .i64 s4,.bool b4,.slice a4 n4 c4] 75)));have HB3:=Lib.hid (HB2.out.alloc HB2.out.size (.cells #[.int .i64 s3,.bool b3,.slice a3 n3 c3,.int .i64 s4,.bool b4,.slice a4 n4 c4] 75));have KD:=Lib.hid K0;obtain ⟨k0,k1,k2,k3,k4,k5,l0,l1,l2,l3,l4,l5⟩:=K0;clear HR12 HR22 HA2 HV12 HV2 HB2 KD
  go_wp2_with fail
  generalize hW3:w2.alloc (.cells #[.int .i64 s3,.bool b3,.slice a3 n3 c3,.int .i64 s4,.bool b4,.slice a4 n4 c4] 75)=W3 at *;clear hW3;obtain ⟨⟨r0,r1,r2,r3,r4,r5⟩,fr⟩:=ResR.cells HX.out;obtain ⟨⟨q0,q1,q2,q3,q4,q5⟩,fq⟩:=ResR.cells HY.out;have fr0:=fr 0;have fr1:=fr 1;have fr2:=fr 2;have fr3:=fr 3;have fr4:=fr 4;have fr5:=fr 5;have fq0:=fq 0;have fq1:=fq 1;have fq2:=fq 2;have fq3:=fq 3;have fq4:=fq 4;have fq5:=fq 5;have ne1:w1.heap.size≠w.heap.size:=by omega
  have ne2:w2.heap.size≠w.heap.size:=by omega
  have ne3:w1.heap.size≠w.heap.size+1:=by omega
  have ne4:w2.heap.size≠w.heap.size+1:=by omega
  clear fr fq
  go_region
  go_wp2
  have e1:=set6_heap HX.out (.int .i64 s1) (.bool b1) (.slice a1 n1 c1) (.int .i64 s2) (.bool b2) (.slice a2 n2 c2);have e2:=(set6_other (w:=W3) (R:=w.heap.size) (g:=w.heap.size+1) (by omega) (.int .i64 s1) (.bool b1) (.slice a1 n1 c1) (.int .i64 s2) (.bool b2) (.slice a2 n2 c2)).trans HY.out;have e3:=set6_heap e2 (.int .i64 s3) (.bool b3) (.slice a3 n3 c3) (.int .i64 s4) (.bool b4) (.slice a4 n4 c4);have e4:=(set6_other (w:=set6 W3 w.heap.size (.int .i64 s1) (.bool b1) (.slice a1 n1 c1) (.int .i64 s2) (.bool b2) (.slice a2 n2 c2)) (R:=w.heap.size+1) (g:=w.heap.size) (by omega) (.int .i64 s3) (.bool b3) (.slice a3 n3 c3) (.int .i64 s4) (.bool b4) (.slice a4 n4 c4)).trans e1;have v3:=(HV3.out.heap_same HX.out (by decide) (fun k hk=>set6_other hk (.int .i64 s1) (.bool b1) (.slice a1 n1 c1) (.int .i64 s2) (.bool b2) (.slice a2 n2 c2))).heap_same e2 (by decide) (fun k hk=>set6_other hk (.int .i64 s3) (.bool b3) (.slice a3 n3 c3) (.int .i64 s4) (.bool b4) (.slice a4 n4 c4));have v4:=(HV4.out.heap_same HX.out (by decide) (fun k hk=>set6_other hk (.int .i64 s1) (.bool b1) (.slice a1 n1 c1) (.int .i64 s2) (.bool b2) (.slice a2 n2 c2))).heap_same e2 (by decide) (fun k hk=>set6_other hk (.int .i64 s3) (.bool b3) (.slice a3 n3 c3) (.int .i64 s4) (.bool b4) (.slice a4 n4 c4));have bl:=set6_below (set6_below HB3.out (Nat.le_refl _) (.int .i64 s1) (.bool b1) (.slice a1 n1 c1) (.int .i64 s2) (.bool b2) (.slice a2 n2 c2)) (Nat.le_succ _) (.int .i64 s3) (.bool b3) (.slice a3 n3 c3) (.int .i64 s4) (.bool b4) (.slice a4 n4 c4)
  show bodyPost _ _ _ _ _ ((set6 (set6 W3 w.heap.size (.int .i64 s1) (.bool b1) (.slice a1 n1 c1) (.int .i64 s2) (.bool b2) (.slice a2 n2 c2)) (w.heap.size+1) (.int .i64 s3) (.bool b3) (.slice a3 n3 c3) (.int .i64 s4) (.bool b4) (.slice a4 n4 c4)).drew);generalize set6 (set6 W3 w.heap.size (.int .i64 s1) (.bool b1) (.slice a1 n1 c1) (.int .i64 s2) (.bool b2) (.slice a2 n2 c2)) (w.heap.size+1) (.int .i64 s3) (.bool b3) (.slice a3 n3 c3) (.int .i64 s4) (.bool b4) (.slice a4 n4 c4)=W5 at *;have f3:W5.drew.heap[w.heap.size+1]? =_:=e3;have f4:W5.drew.heap[w.heap.size]? =_:=e4;have g3:RV W5.drew _ _:=v3.far (below_drewN (Below.refl _ _) 1);have g4:RV W5.drew _ _:=v4.far (below_drewN (Below.refl _ _) 1);have gb:Below w.heap.size w W5.drew:=below_drewN bl 1;clear e1 e2 e3 e4 v3 v4 bl;generalize W5.drew=W6 at *;exact end_pair Tryz.results88 rfl rfl rfl rfl f4 f3 g3 g4 gb
theorem pair_any (s t:ByteArray) (w:World) (hs:s.size≤1000000) (ht:t.size≤1000000) (h:Env w) (hg:GcdAt s.data.toList) (hg':GcdAt t.data.toList):Calls Tryz.prog 88 #[.string s,.string t] w (PairPost (ratF s.data.toList) (ratF t.data.toList) w):=by
  have hp:ParseIs s (ratF s.data.toList):=fun W hW=>parse_env s W hs hW hg
  have hp':ParseIs t (ratF t.data.toList):=fun W hW=>parse_env t W ht hW hg'
  generalize ratF s.data.toList=oa at *;generalize ratF t.data.toList=ob at *;cases oa with
  | none=>cases ob with
    | none=>exact pair_nn s t w h hp hp'
    | some q=>exact pair_ns s t w h hp hp'
  | some p=>cases ob with
    | none=>exact pair_sn s t w h hp hp'
    | some q=>exact pair_ss s t w h hp hp'
end


section
theorem intString_small (z:Int) (w:World) (h:Env w) (hz:Small z):Calls Tryz.prog 145 #[smallV z] w fun e w'=>e=.returned (.string ⟨(decI z).toArray⟩)∧Below w.heap.size w w':=by
  have kq0:=mag_eql0;have hbl:∀o:Obj,Below w.heap.size w (w.alloc o):=fun o=>(Below.refl _ _).alloc (Nat.le_refl _) _
  have hf:=fun o=>Tryz.strconv_FormatInt_10 z (by have:=hz.1;omega) (by have:=hz.2;omega) (w.alloc o) (h.far (hbl o)).tab
  rw[itoa_eq] at hf;unfold smallV;clear h hz
  go_enter Tryz.func145,Tryz.ntmps145
  go_wp2_with fail
  refine (hf _).mono ?_;rintro e w1 ⟨rfl,k,os,hw⟩;have HB:Hid (Below w.heap.size (w.alloc (.cells #[.int .i64 z,.bool false,.slice none 0 0] 73)) w1):=Lib.hid (by rw[hw];exact Lib.below_grow w.heap.size _ (by simp) k os);clear hw
  go_wp2
  go_ret
  exact ⟨rfl,(hbl _).trans HB.out⟩
end

theorem den_get (q:Rat):(if q.den=1 then (1:Int) else denI q)=q.den:=by
  unfold denI
  by_cases h:q.den=1
  · rw[if_pos h,h];rfl
  · rw[if_neg h,if_neg h]

section
theorem ratDen_any (v:Value) (q:Rat) (w:World) (h:RV w v q):Calls Tryz.prog 130 #[v] w (GetsI q.den w):=by
  obtain ⟨s1,b1,a1,n1,c1,s2,b2,a2,n2,c2,rfl,h1,h2⟩:=rv_form h;have HB0:=Lib.hid (below2 w (.cells #[.int .i64 s1,.bool b1,.slice a1 n1 c1,.int .i64 s2,.bool b2,.slice a2 n2 c2] 75) (.cells #[.int .i64 0,.bool false,.slice none 0 0] 73));have hz:=isZero_any _ _ _ (h2.far HB0.out);rw[denI_zero] at hz;have H2:=Lib.hid h2;have HG:=Lib.hid (den_get q);clear h h1 h2
  go_enter Tryz.func130,Tryz.ntmps130
  go_wp2_with fail
  refine hz.mono ?_;rintro e w1 ⟨rfl,hb1⟩;have HR1:=Lib.hid ((hb1.block w.heap.size (by simp;omega)).trans ((Below.heap_alloc _ _ _ (by simp)).trans (heap_alloc_new w _)));have HR2:=Lib.hid ((hb1.block (w.heap.size+1) (by simp)).trans (new_second w _ _));have HB1:=Lib.hid (HB0.out.trans (hb1.mono (by simp;omega)));clear hb1 hz HB0
  by_cases hd:q.den=1
  · have hdb:decide (q.den=1)=true:=by simpa using hd
    have hf:=fromInt64_any 1 w1 (by omega) (by omega);have HE:Hid ((q.den:Int)=1):=Lib.hid (by rw[hd];rfl);clear hd HG
    go_wp2_with fail
    refine hf.mono ?_;rintro e w2 ⟨v2,rfl,hv2,hb2⟩;have HV2:=Lib.hid hv2;obtain ⟨s3,b3,a3,n3,c3,rfl⟩:=iv_form hv2;have HS2:=Lib.hid ((hb2.block _ (lt_of_heap HR2.out)).trans HR2.out);have HB2:=Lib.hid (HB1.out.trans (hb2.mono HB1.out.size));obtain ⟨r0,r1,r2,r3,r4,r5⟩:=Res.cells HS2.out;clear hv2 hb2 hf
    go_wp2
    rw[HE.out];exact end_int Tryz.results130 rfl rfl HS2.out HV2.out HB2.out (by omega)
  · have hdb:decide (q.den=1)=false:=by simpa using hd
    have HE:Hid ((q.den:Int)=denI q):=Lib.hid (by rw[←HG.out,if_neg hd]);obtain ⟨y0,y1,y2,y3,y4,y5,-⟩:=Dozen.of HR1.out HR1.out;obtain ⟨r0,r1,r2,r3,r4,r5⟩:=Res.cells HR2.out;clear hd HG
    go_wp2
    rw[HE.out];exact end_int Tryz.results130 rfl rfl HR2.out (H2.out.far HB1.out) HB1.out (by omega)
end

def StrAt (z:Int):Prop:=∀(v:Value) (w:World),Env w→IV w v z→Calls Tryz.prog 145 #[v] w fun e w'=>e=.returned (.string ⟨(decI z).toArray⟩)∧Below w.heap.size w w'
theorem textQ_den1 {q:Rat} (h:q.den=1):textQ q=decI q.num:=by unfold textQ;rw[if_pos h,List.append_nil]
theorem textQ_den {q:Rat} (h:q.den≠1):textQ q=decI q.num++47::decI q.den:=by
  unfold textQ;rw[if_neg h,decI_nat]

theorem keep6 {a b:World} {g:Nat} {x0 x1 x2 x3 x4 x5:Value} (hb:Below a.heap.size a b) (hg:g<a.heap.size)
    (h:a.cell? ⟨g,0,none⟩=some x0∧a.cell? ⟨g,1,none⟩=some x1∧a.cell? ⟨g,2,none⟩=some x2∧a.cell? ⟨g,3,none⟩=some x3∧a.cell? ⟨g,4,none⟩=some x4∧a.cell? ⟨g,5,none⟩=some x5):
    b.cell? ⟨g,0,none⟩=some x0∧b.cell? ⟨g,1,none⟩=some x1∧b.cell? ⟨g,2,none⟩=some x2∧b.cell? ⟨g,3,none⟩=some x3∧b.cell? ⟨g,4,none⟩=some x4∧b.cell? ⟨g,5,none⟩=some x5:=by
  obtain ⟨k0,k1,k2,k3,k4,k5⟩:=h;have e:=hb.block g hg;refine ⟨?_,?_,?_,?_,?_,?_⟩ <;> simp only[World.cell?,e] at * <;> assumption

section
theorem ratString_int (v:Value) (q:Rat) (w:World) (h:RV w v q) (hE:Env w) (hn:StrAt q.num) (hd:q.den=1):Calls Tryz.prog 97 #[v] w fun e w'=>e=.returned (.string ⟨(textQ q).toArray⟩)∧Below w.heap.size w w':=by
  obtain ⟨s1,b1,a1,n1,c1,s2,b2,a2,n2,c2,rfl,h1,h2⟩:=rv_form h;have hi:=fun o=>ratIsInt_any (.agg #[.int .i64 s1,.bool b1,.slice a1 n1 c1,.int .i64 s2,.bool b2,.slice a2 n2 c2]) q (w.alloc o) (h.far ((Below.refl _ _).alloc (Nat.le_refl _) o))
  have HB0:=Lib.hid ((Below.refl w.heap.size w).alloc (Nat.le_refl _) (.cells #[.int .i64 s1,.bool b1,.slice a1 n1 c1,.int .i64 s2,.bool b2,.slice a2 n2 c2] 75));have H1:=Lib.hid h1;have H2:=Lib.hid h2;have HE:=Lib.hid hE;have HN:=Lib.hid hn;clear h hE hn h1 h2
  go_enter Tryz.func97,Tryz.ntmps97
  go_wp2_with fail
  refine (hi _).mono ?_;rintro e w1 ⟨rfl,hb1⟩;have HR1:=Lib.hid ((hb1.block w.heap.size (by simp)).trans (heap_alloc_new w (.cells #[.int .i64 s1,.bool b1,.slice a1 n1 c1,.int .i64 s2,.bool b2,.slice a2 n2 c2] 75)));have HB1:=Lib.hid (HB0.out.trans (hb1.mono (by simp)));obtain ⟨y0,y1,y2,y3,y4,y5,-⟩:=Dozen.of HR1.out HR1.out;clear hb1 hi HB0;have hdb:decide (q.den=1)=true:=by simpa using hd
  have HT:=Lib.hid (textQ_den1 hd);clear hd H2;have hs:=HN.out (.agg #[.int .i64 s1,.bool b1,.slice a1 n1 c1]) w1 (HE.out.far HB1.out) (H1.out.far HB1.out)
  go_wp2_with fail
  refine hs.mono ?_;rintro e w2 ⟨rfl,hb2⟩;have HB2:=Lib.hid (HB1.out.trans (hb2.mono HB1.out.size));clear hb2 hs
  go_wp2
  go_ret
  exact ⟨by rw[HT.out];rfl,HB2.out⟩
end
end Go.Proofs.YtpkfnnkbfphfbaaGreatDoor
/- The reference's FromInt, at every int. -/
namespace Go.Proofs.YtpkfnnkbfphfbaaGreatDoor
open Go.RowKit Nmx

def DecRel (n m:Nat) (acc:List UInt8):Prop:=(m≠0∨acc=[]→decN m++acc=decN n)∧(m=0→acc≠[]→acc=decN n)
theorem dec_start (n:Nat):DecRel n n []:=⟨fun _=>by simp,fun _ h=>absurd rfl h⟩
theorem dec_step {n m:Nat} {acc:List UInt8} (h:DecRel n m acc) (hm:m≠0∨acc=[]):DecRel n (m / 10) (dg (m % 10)::acc):=by
  have h1:=h.1 hm;refine ⟨fun h2=>?_,fun h2 _=>?_⟩
  · have:m / 10≠0:=by rcases h2 with h2 | h2;exact h2;cases h2
    rw[←h1,decN_big (n:=m) (by omega)];simp
  · have h10:m<10:=by omega
    rw[←h1,decN_small h10,Nat.mod_eq_of_lt h10];rfl
theorem dec_len {n m:Nat} {acc:List UInt8} (h:DecRel n m acc) (hn:n≤9223372036854775808):acc.length≤19:=by
  have:=decN_len_le (n:=n) (k:=19) (by omega) (by omega)
  by_cases hm:m≠0∨acc=[]
  · have:=congrArg List.length (h.1 hm);rw[List.length_append] at this;omega
  · have:=h.2 (by omega) (by simp at hm;exact hm.2);rw[this];omega
theorem conv_one (w:World) (c:UInt8) (k:Int) (hk:k=c.toNat):Sem.run Tryz.prog (convert 99 9 (Value.slice (some { block:=w.heap.size,off:=0 }) 1 1)) (w.alloc (.cells #[.int .u8 k] 5))=.ok (.string ⟨#[c]⟩) (w.alloc (.cells #[.int .u8 k] 5)):=by
  subst hk;refine run_convert_bytes_back (P:=Tryz.prog) _ 99 9 5 ⟨w.heap.size,0,none⟩ 1 [c] Tryz.underlying99 Tryz.underlying5 Tryz.underlying9 ?_;intro j hj
  simp at hj
  subst hj;exact (World.news_of_block (cs:=#[.int .u8 (c.toNat:Int)]) (t:=5) (fr:=(0,0)) (heap_alloc_new w _)) 0 _ (by simp)
theorem cons_app (c:UInt8) (acc:List UInt8):(⟨#[c]⟩:ByteArray)++⟨acc.toArray⟩=⟨(c::acc).toArray⟩:=by
  apply ByteArray.ext;rw[ByteArray.data_append];apply Array.toList_inj.1
  simp
theorem decI_sgn (b:Bool) (n:Nat) (h:b=true→0<n):decI (sgn b n)=if b then 45::decN n else decN n:=by
  cases b
  · exact decI_nat n
  · exact decI_neg n (h rfl)

section
theorem refFromInt_pos (n:Nat) (w:World) (hn:n≤9223372036854775807):
    Calls Tryz.prog 40 #[.int .i64 ((n:Int))] w fun e w'=>e=.returned (.string ⟨(decI ((n:Int))).toArray⟩)∧Below w.heap.size w w':=by
  have HS:Hid (decI ((n:Int))=decN n):=Lib.hid (decI_nat n)
  go_enter Tryz.func40,Tryz.ntmps40
  go_wp2
  generalize hb:w.heap.size=b at *;have HB:=Lib.hid hb;clear hb
  go_loopw [3,4] (fun sv v wr=>∃(m:Nat) (acc:List UInt8),m≤n∧v=.int .i64 ((m:Int))∧sv=.string ⟨acc.toArray⟩∧Below b w wr∧DecRel n m acc)
    (fun sv v _=>(intOf v).natAbs+(match sv with | .string t=>if t.size=0 then 1 else 0 | _=>0))
  case atStart=>exact ⟨n,[],Nat.le_refl _,rfl,rfl,Below.refl _ _,dec_start n⟩
  case round=>
    obtain ⟨m,acc,hm,rfl,rfl,hbel,hd⟩:=hrel;have hlen:=dec_len hd (by omega);have HW:=Lib.hid hbel;have HD:=Lib.hid hd;have hsz:=hbel.size;clear hbel hd;have HT1:Int.tmod ((m:Int)) 10=((m % 10:Nat):Int):=by rw[Int.tmod_eq_emod_of_nonneg (by omega)];rfl
    have HT2:Int.tdiv ((m:Int)) 10=((m / 10:Nat):Int):=by rw[Int.tdiv_eq_ediv_of_nonneg (by omega)];rfl
    have hd10:m % 10<10:=Nat.mod_lt _ (by omega)
    by_cases hm0:m=0
    · subst hm0
      by_cases ha:acc=[]
      · subst ha;have HN:=Lib.hid (dec_step HD.out (.inr rfl));have hcv:=conv_one wr (dg 0) 48 (by decide)
        go_wp2
        refine ⟨⟨0,[dg 0],Nat.zero_le _,rfl,rfl,HW.out.alloc (by have:=HB.out;omega) _,?_⟩,?_⟩
        · exact HN.out
        · simp[intOf];decide
      · have HF:=Lib.hid (HD.out.2 rfl ha);have hne:acc.isEmpty=false:=by simpa using ha
        go_wp2
        go_ret
        exact ⟨ret_str (by rw[HS.out,HF.out]),by rw[HB.out];exact HW.out⟩
    · have hmb:(((m:Int)) !=0)=true:=by simp;omega
      have HN:=Lib.hid (dec_step HD.out (.inl hm0));obtain ⟨r,hr⟩:∃r,m % 10=r:=⟨_,rfl⟩
      obtain ⟨q,hq⟩:∃q,m / 10=q:=⟨_,rfl⟩
      have hqm:q≤m:=by omega
      have hql:q<m:=by omega
      rw[hr] at HT1 hd10;rw[hq] at HT2;rw[hr,hq] at HN;have hcv:=conv_one wr (dg r) (48+(r:Int)) (by rw[dg_toNat hd10];omega);have hmr:(m:Int) % 10=(r:Int):=by omega
      have hmq:(m:Int) / 10=(q:Int):=by omega
      clear hr hq
      go_wp2
      refine ⟨⟨q,dg r::acc,by omega,by go_num,congrArg Value.string (cons_app _ _),HW.out.alloc (by have:=HB.out;omega) _,HN.out⟩,?_⟩;rw[cons_app]
      simp[intOf,ByteArray.size]
      omega
theorem refFromInt_neg (n:Nat) (w:World) (hn:n≤9223372036854775808) (hp:0<n):
    Calls Tryz.prog 40 #[.int .i64 (-(n:Int))] w fun e w'=>e=.returned (.string ⟨(decI (-(n:Int))).toArray⟩)∧Below w.heap.size w w':=by
  have HS:Hid (decI (-(n:Int))=45::decN n):=Lib.hid (decI_neg n hp);have hlt: -(n:Int)<0:=by omega
  go_enter Tryz.func40,Tryz.ntmps40
  go_wp2
  generalize hb:w.heap.size=b at *;have HB:=Lib.hid hb;clear hb
  go_loopw [3,4] (fun sv v wr=>∃(m:Nat) (acc:List UInt8),m≤n∧v=.int .i64 (-(m:Int))∧sv=.string ⟨acc.toArray⟩∧Below b w wr∧DecRel n m acc)
    (fun sv v _=>(intOf v).natAbs+(match sv with | .string t=>if t.size=0 then 1 else 0 | _=>0))
  case atStart=>exact ⟨n,[],Nat.le_refl _,rfl,rfl,Below.refl _ _,dec_start n⟩
  case round=>
    obtain ⟨m,acc,hm,rfl,rfl,hbel,hd⟩:=hrel;have hlen:=dec_len hd (by omega);have HW:=Lib.hid hbel;have HD:=Lib.hid hd;have hsz:=hbel.size;clear hbel hd;have HT1:Int.tmod (-(m:Int)) 10= -((m % 10:Nat):Int):=by rw[Int.neg_tmod,Int.tmod_eq_emod_of_nonneg (by omega)];rfl
    have HT2:Int.tdiv (-(m:Int)) 10= -((m / 10:Nat):Int):=by rw[Int.neg_tdiv,Int.tdiv_eq_ediv_of_nonneg (by omega)];rfl
    have hd10:m % 10<10:=Nat.mod_lt _ (by omega)
    by_cases hm0:m=0
    · subst hm0
      by_cases ha:acc=[]
      · subst ha;have HN:=Lib.hid (dec_step HD.out (.inr rfl));have hcv:=conv_one wr (dg 0) 48 (by decide)
        exfalso
        have h1:=HD.out.1 (.inr rfl);rw[List.append_nil] at h1;have:=decN_inj h1
        omega
      · have HF:=Lib.hid (HD.out.2 rfl ha);have hne:acc.isEmpty=false:=by simpa using ha
        go_wp2
        go_ret
        exact ⟨ret_str (by rw[HS.out,HF.out];exact cons_app 45 (decN n)),by rw[HB.out];exact HW.out⟩
    · have hmb:((-(m:Int)) !=0)=true:=by simp;omega
      have HN:=Lib.hid (dec_step HD.out (.inl hm0));obtain ⟨r,hr⟩:∃r,m % 10=r:=⟨_,rfl⟩
      obtain ⟨q,hq⟩:∃q,m / 10=q:=⟨_,rfl⟩
      have hqm:q≤m:=by omega
      have hql:q<m:=by omega
      rw[hr] at HT1 hd10;rw[hq] at HT2;rw[hr,hq] at HN;have hcv:=conv_one wr (dg r) (48+(r:Int)) (by rw[dg_toNat hd10];omega);have hmr:(m:Int) % 10=(r:Int):=by omega
      have hmq:(m:Int) / 10=(q:Int):=by omega
      clear hr hq
      by_cases hr0:r=0
      · subst hr0;have hcv0:=conv_one wr (dg 0) 48 (by decide)
        go_wp2
        refine ⟨⟨q,dg 0::acc,by omega,rfl,congrArg Value.string (cons_app _ _),HW.out.alloc (by have:=HB.out;omega) _,HN.out⟩,?_⟩;rw[cons_app]
        simp[intOf,ByteArray.size]
        omega
      · have hrn: -(r:Int)<0:=by omega
        go_wp2
        refine ⟨⟨q,dg r::acc,by omega,rfl,congrArg Value.string (cons_app _ _),HW.out.alloc (by have:=HB.out;omega) _,HN.out⟩,?_⟩;rw[cons_app]
        simp[intOf,ByteArray.size]
        omega
theorem refFromInt_any (z:Int) (w:World) (h1: -9223372036854775808≤z) (h2:z≤9223372036854775807):
    Calls Tryz.prog 40 #[.int .i64 z] w fun e w'=>e=.returned (.string ⟨(decI z).toArray⟩)∧Below w.heap.size w w':=by
  by_cases hz:z<0
  · have:=refFromInt_neg z.natAbs w (by omega) (by omega);rw[show -(z.natAbs:Int)=z by omega] at this;exact this
  · have:=refFromInt_pos z.natAbs w (by omega);rw[show (z.natAbs:Int)=z by omega] at this;exact this
end
end Go.Proofs.YtpkfnnkbfphfbaaGreatDoor
namespace Nmx

structure DivI (a q:List Nat) (b i r:Nat):Prop where
  len:q.length=a.length
  ws:Ws q
  low:∀k,k<i→q.getD k 0=a.getD k 0
  r1:r<b
  val:wv (q.drop i)*b+r=wv (a.drop i)
theorem DivI.start (a:List Nat) (b:Nat) (ha:Ws a) (hb:0<b):DivI a a b a.length 0:=
  ⟨rfl,ha,fun _ _=>rfl,hb,by simp[wv_nil]⟩
theorem DivI.step {a q:List Nat} {b i r:Nat} (h:DivI a q b (i+1) r) (ha:Ws a) (hi:i<a.length) (t:Nat) (ht:t=r*BB+a.getD i 0):DivI a (q.set i (t / b)) b i (t % b)∧t / b<BB:=by
  have h1:=ha.getD i;have h2:=h.r1;have hb0:0<b:=by omega
  have h3:t<b*BB:=by
    have:(r+1)*BB≤b*BB:=Nat.mul_le_mul_right _ h2;rw[Nat.add_mul,Nat.one_mul] at this
    omega
  have h4:t / b<BB:=(Nat.div_lt_iff_lt_mul hb0).2 (by rw[Nat.mul_comm];exact h3);refine ⟨⟨by rw[List.length_set];exact h.len,h.ws.set _ h4,fun k hk=>by rw[getD_set_far _ _ _ _ (by omega)];exact h.low k (by omega),Nat.mod_lt _ hb0,?_⟩,h4⟩;have hq:i<q.length:=by rw[h.len];exact hi
  rw[wv_drop_getD _ i (by rw[List.length_set];exact hq),getD_set_same q i _ hq,List.drop_set_of_lt (by omega),wv_drop_getD a i hi];have h5:=Nat.mod_add_div t b;have h6:=h.val;have h7:BB*(wv (q.drop (i+1))*b+r)=BB*wv (a.drop (i+1)):=by rw[h6]
  rw[Nat.mul_add] at h7;rw[Nat.add_mul,Nat.mul_assoc,Nat.mul_comm (t / b) b,←h7];have:r*BB=BB*r:=Nat.mul_comm _ _
  omega
theorem DivI.done {a q:List Nat} {b r:Nat} (h:DivI a q b 0 r):wv q=wv a / b∧r=wv a % b:=by
  have h1:=h.val;rw[List.drop_zero,List.drop_zero] at h1;have h2:=h.r1;rw[←h1];have h0:0<b:=by omega
  refine ⟨?_,?_⟩
  · rw[Nat.mul_comm,Nat.mul_add_div h0,Nat.div_eq_of_lt h2,Nat.add_zero]
  · rw[Nat.mul_comm,Nat.mul_add_mod,Nat.mod_eq_of_lt h2]

structure ChR (N:Nat) (l c:List Nat):Prop where
  nl:Norm l
  lt:∀x∈c,x<1000000000
  val:chunksV c+1000000000 ^ c.length*wv l=N
  last:l=[]→c≠[]∧c.getLastD 0≠0
theorem ChR.start {l:List Nat} (h:Norm l) (h0:l≠[]):ChR (wv l) l []:=
  ⟨h,fun x hx=>absurd hx (by simp),by simp[chunksV],fun e=>absurd e h0⟩
theorem wv_pos_of {l:List Nat} (h:Norm l) (h0:l≠[]):0<wv l:=by
  rcases Nat.eq_zero_or_pos (wv l) with h1 | h1
  · exact absurd (norm_zero l h h1) h0
  · exact h1
theorem ChR.step {N:Nat} {l c q:List Nat} {r:Nat} (h:ChR N l c) (h0:l≠[]) (hq:wv q=wv l / 1000000000) (hr:r=wv l % 1000000000) (hw:Ws q):ChR N (trimW q) (c++[r]):=by
  have hp:=wv_pos_of h.nl h0;have hd:=Nat.mod_add_div (wv l) 1000000000
  constructor
  · exact trimW_norm q hw
  · intro x hx;rw[List.mem_append,List.mem_singleton] at hx;rcases hx with hx | hx
    · exact h.lt x hx
    · rw[hx,hr];exact Nat.mod_lt _ (by omega)
  · rw[chunksV_snoc,trimW_wv,hq,List.length_append,List.length_singleton,Nat.pow_succ,Nat.mul_assoc,hr,Nat.add_assoc,←Nat.mul_add,hd];exact h.val
  · intro e;have:wv q=0:=by rw[←trimW_wv,e];rfl
    refine ⟨by simp,?_⟩
    simp
    omega
theorem ChR.few {N:Nat} {l c:List Nat} (h:ChR N l c) (h0:l≠[]) {L:Nat} (hN:N<BB ^ L):c.length<32*L:=by
  have hp:=wv_pos_of h.nl h0;have h1:=h.val;have h2:1000000000 ^ c.length*1≤1000000000 ^ c.length*wv l:=Nat.mul_le_mul_left _ hp;have h3:2 ^ c.length≤1000000000 ^ c.length:=Nat.pow_le_pow_left (by omega) _;have h4:BB ^ L=2 ^ (32*L):=by rw[BB_eq,Nat.pow_mul]
  rw[h4] at hN;exact (Nat.pow_lt_pow_iff_right (by omega:1<2)).1 (by omega)
theorem ChR.done {N:Nat} {c:List Nat} (h:ChR N [] c):chunksT c=decN N∧c≠[]:=by
  obtain ⟨h1,h2⟩:=h.last rfl;have h3:=h.val;rw[wv_nil,Nat.mul_zero,Nat.add_zero] at h3;rw[←h3];exact ⟨(chunksT_eq c h1 h.lt h2).1,h1⟩
theorem chunksT_drop {c:List Nat} {i:Nat} (hi:i<c.length):chunksT (c.drop i)=chunksT (c.drop (i+1))++(if i+1<c.length then List.replicate (9-(decN (c.getD i 0)).length) 48 else [])++decN (c.getD i 0):=by
  rw[List.drop_eq_getElem_cons hi,getD_at c i hi]
  by_cases h:i+1<c.length
  · rw[if_pos h,chunksT_snoc _ _ (by intro e;have:=congrArg List.length e;rw[List.length_drop] at this;simp at this;omega),pad9,List.append_assoc]
  · rw[if_neg h,List.drop_of_length_le (by omega)]
    simp[chunksT]
theorem chunksT_len (c:List Nat) (h:∀x∈c,x<1000000000):(chunksT c).length≤9*c.length:=by
  induction c with
  | nil=>simp[chunksT]
  | cons x r ih=>
    have hx:=h x (by simp)
    by_cases hr:r=[]
    · subst hr;simp only[chunksT,List.reverse_cons,List.reverse_nil,List.nil_append,List.map_nil,List.flatten_nil,List.append_nil];have:=decN_len_le (n:=x) (k:=9) (by omega) (by omega)
      simpa using this
    · rw[chunksT_snoc x r hr,List.length_append,pad9_len x hx,List.length_cons];have:=ih (fun y hy=>h y (by simp[hy]))
      omega
end Nmx
namespace Go.Proofs.YtpkfnnkbfphfbaaGreatDoor
open Go.RowKit Nmx

theorem own_set_other {w:World} {b:Nat} {t:TypeId} {sz:Nat} {v:Value} {n:Nat} {xs:List Value} (h:w.ownsRow b t sz v n xs) {g:Nat} (hg:g<b) (i:Nat) (x:Value):(w.setCell ⟨g,i,none⟩ x).ownsRow b t sz v n xs:=by
  obtain ⟨hx,h | ⟨g',cap,cur,hv,hb,hh,r⟩⟩:=h
  · exact ⟨hx,.inl h⟩
  · exact ⟨hx,.inr ⟨g',cap,cur,hv,hb,(Below.heap_setCell _ _ _ _ (by show g'≠g;omega)).trans hh,r⟩⟩
theorem own_below {w w1:World} {b:Nat} {t:TypeId} {sz:Nat} {v:Value} {n:Nat} {xs:List Value} (h:w.ownsRow b t sz v n xs) {B:Nat} (hb:Below B w w1) (hB:w.heap.size≤B):w1.ownsRow b t sz v n xs:=by
  obtain ⟨hx,h | ⟨g,cap,cur,hv,hg,hh,r⟩⟩:=h
  · exact ⟨hx,.inl h⟩
  · exact ⟨hx,.inr ⟨g,cap,cur,hv,hg,(hb.block g (by have:=lt_of_heap hh;omega)).trans hh,r⟩⟩
theorem own_grown {w w1:World} {b:Nat} {t:TypeId} {sz:Nat} {v v':Value} {n:Nat} {xs:List Value} (h:w.ownsRow b t sz v n xs) (hg:w.grownBy w1 v'.ownBlock) (hne:∀k,v'.ownBlock=some k→v.ownBlock≠some k):w1.ownsRow b t sz v n xs:=by
  refine h.kept hg ?_;rcases hv:v.ownBlock with _ | k
  · exact .inl rfl
  · exact .inr fun e=>hne k e.symm (by rw[hv])
theorem ownsW_take {w:World} {b g cap:Nat} {l:List Nat} (h:w.ownsRow b 207 1 (.slice (some ⟨g,0,none⟩) l.length cap) l.length (u32s l)) (k:Nat) (hk:k≤l.length):w.ownsRow b 207 1 (.slice (some ⟨g,0,none⟩) (l.take k).length cap) (l.take k).length (u32s (l.take k)):=by
  obtain ⟨hx,h | ⟨g',cap',cur,hv,hg,hh,hc,hm,hs,ht⟩⟩:=h
  · cases h.1
  · injection hv with e1 e2 e3;injection e1 with e1;injection e1 with e1;subst e1 e3;have hl:(l.take k).length=k:=by rw[List.length_take];omega
    refine ⟨by rw[u32s_len,hl];omega,.inr ⟨g,cap,cur,rfl,hg,hh,by omega,hm,hs,?_⟩⟩;rw[Nat.mul_one] at ht;rw[hl,Nat.mul_one];have e:u32s (l.take k)=(u32s l).take k:=by simp[u32s,List.map_take]
    rw[e,←ht,List.take_take];congr 1;omega
theorem ownsW_WS {w:World} {b g cap:Nat} {l:List Nat} (h:w.ownsRow b 207 1 (.slice (some ⟨g,0,none⟩) l.length cap) l.length (u32s l)) (hw:Ws l):WS w (some ⟨g,0,none⟩) g 0 cap l:=by
  have h':=h;obtain ⟨hx,h | ⟨g',cap',cur,hv,hg,hh,hc,hm,_⟩⟩:=h
  · cases h.1
  · injection hv with e1 e2 e3;injection e1 with e1;injection e1 with e1;subst e1 e3;exact ⟨hc,by unfold maxLen at hm;omega,fun _=>rfl,(fun h=>by cases h),fun _=>⟨_,_,hh⟩,fun i hi=>by rw[Nat.zero_add];exact (ownsW_at h' i hi).1,hw⟩
theorem WS.news {w:World} {g off cap:Nat} {l:List Nat} (h:WS w (some ⟨g,off,none⟩) g off cap l):∀j u,(u32s l)[j]? =some u→w.cell? ((⟨g,off,none⟩:Addr).add j)=some u:=by
  intro j u hu;have hj:j<l.length:=by have:=(List.getElem?_eq_some_iff.1 hu).1;rwa [u32s_len] at this
  rw[u32s_at l j hj] at hu;cases hu
  rw[Addr.add_lit];exact h.at_ j hj
theorem u32s_one (l:List Nat):∀u∈u32s l,u.oneCell'=true:=by
  intro u hu;simp only[u32s,List.mem_map] at hu;obtain ⟨n,_,rfl⟩:=hu;rfl
def bcs (l:List UInt8):List Value:=l.map fun b=>Value.int .u8 (b.toNat:Int)
theorem bcs_append (a b:List UInt8):bcs (a++b)=bcs a++bcs b:=by simp[bcs]
theorem bcs_str (s:ByteArray):Lib.strCells s=bcs s.data.toList:=rfl
def OB (w:World) (b:Nat) (v:Value) (l:List UInt8):Prop:=w.ownsRow b 5 1 v l.length (bcs l)
theorem OB.cells {w:World} {b g n cap:Nat} {l:List UInt8} (h:OB w b (.slice (some ⟨g,0,none⟩) n cap) l):n=l.length∧∀j (hj:j<l.length),w.cell? ((⟨g,0,none⟩:Addr).add j)=some (.int .u8 (l[j].toNat:Int)):=by
  have h':=h;obtain ⟨hx,h | ⟨g',cap',cur,hv,_⟩⟩:=h
  · cases h.1
  · injection hv with e1 e2 e3;refine ⟨e2,fun j hj=>?_⟩;exact World.ownsRow.cells h' (g:=g) rfl j _ (by simp[bcs,hj])
theorem OB.shape {w:World} {b:Nat} {v:Value} {l:List UInt8} (h:OB w b v l) (hn:0<l.length):∃g cap,v=.slice (some ⟨g,0,none⟩) l.length cap:=by
  obtain ⟨_,h | ⟨g,cap,cur,hv,_⟩⟩:=h
  · omega
  · exact ⟨g,cap,hv⟩
theorem infoU8:(Tryz.prog.info? 5).map (fun i=>(i.zero,i.size,i.bytes))=some (some (.int .u8 0),1,1):=by kernel_rfl
theorem mk_bytes (n:Nat) (hn:n≤1000000000) (z:Int) (hz:z=n) (W:World):
    (Instr.makeSlice 99 (.int .i64 0) (.int .i64 z)).run Tryz.prog W=.ok (.slice (some ⟨W.heap.size,0,none⟩) 0 n) (W.alloc (.cells (madeCells #[.int .u8 0] n) 5)):=by
  subst hz;obtain ⟨i0,hi,hz0,hz1,hz2⟩:=info_parts infoU8;have hr:=run_make (P:=Tryz.prog) W 99 5 i0 _ Tryz.underlying99 hi hz0 .i64 .i64 0 n (by omega) (by omega) (by rw[hz2];omega) (by omega);rw[hz1,Int.toNat_natCast,Nat.mul_one] at hr;exact hr
theorem OB.made (w:World) (n:Nat) (hn:n≤1000000000):OB (w.alloc (.cells (madeCells #[.int .u8 0] n) 5)) w.heap.size (.slice (some ⟨w.heap.size,0,none⟩) 0 n) []:=
  World.ownsRow_made w _ n (Nat.le_refl _) (by unfold maxLen;omega) (by rw[size_madeCells,Nat.mul_one])
theorem sz_txt (l:List UInt8):(⟨l.toArray⟩:ByteArray).size=l.length:=by simp[ByteArray.size]

section
theorem intString_big (b:Bool) (g off cap:Nat) (l:List Nat) (w:World) (hE:Env w) (hw:WS w (some ⟨g,off,none⟩) g off cap l) (hl:Big l):
    Calls Tryz.prog 145 #[bigV b (some ⟨g,off,none⟩) l.length cap] w fun e w'=>e=.returned (.string ⟨(decI (sgn b (wv l))).toArray⟩)∧Below w.heap.size w w':=by
  have kq:=mag_eql;obtain ⟨i0,hi,hz0,hz1,hz2⟩:=info_parts infoU32;obtain ⟨j0,hj,hy0,hy1,hy2⟩:=info_parts infoU8;have hne:l≠[]:=fun e=>by have:=hl.pos;rw[e] at this;simp[wv_nil] at this
  have hlen:0<l.length:=List.length_pos_iff.2 hne;have hlm:l.length≤1000000:=hl.2.2;have HLT:Hid (wv l<BB ^ l.length):=Lib.hid (wv_lt l hl.1.1);have HCH:=Lib.hid (ChR.start hl.1 hne);have HTXT:Hid (decI (sgn b (wv l))=if b then 45::decN (wv l) else decN (wv l)):=Lib.hid (decI_sgn b _ (fun _=>hl.pos.1));have HBL0:Hid (Below w.heap.size w (w.alloc (.cells #[.int .i64 0,.bool b,.slice (some ⟨g,off,none⟩) l.length cap] 73))):=Lib.hid ((Below.refl _ _).alloc (Nat.le_refl _) _);have HNEWS:=Lib.hid (hw.far HBL0.out).news;have HWS:=Lib.hid hl.1.1;have HE0:=Lib.hid hE;generalize hN:wv l=N at *;clear hE hw hl hN hne;unfold bigV
  go_enter Tryz.func145,Tryz.ntmps145
  go_wp2_with (at_builtin;refine wpList_append_own _ rfl _ _ 71 rfl (w.heap.size+1) 207 i0 (.int .u32 0) 1 4 Tryz.underlying71 hi hz0 hz1 hz2 rfl (by decide) _ 0 [] rfl (World.ownsRow_nil _ _ _ _) ⟨g,off,none⟩ l.length cap (u32s l) rfl (by rw[u32s_len,Nat.mul_one]) HNEWS.out (u32s_one l) (by unfold maxLen;omega) (by omega) (by simp) ?_)
  intro v2 w2 hown hgrow _;obtain ⟨g1,cap1,hv,hg1,hcap1⟩:=ownsW_shape hown hlen;subst hv;have hg1lt:=(hown.lt g1 rfl).2;have HBX:Hid (w2.heap[w.heap.size]? =some (.cells #[.int .i64 0,.bool b,.slice (some ⟨g,off,none⟩) l.length cap] 73 (0,0))):=Lib.hid ((hgrow.block w.heap.size (by simp) (fun e=>by cases e)).trans (heap_alloc_new w _));have HB2:=Lib.hid (HBL0.out.grown hgrow (by simp) (fun k hk=>by cases hk));have HOW:=Lib.hid hown;clear hown hgrow HNEWS HBL0
  go_wp2
  go_loopw [3,4] (fun sv cv wr=>∃(l2 c:List Nat),sv=.slice (some ⟨g1,0,none⟩) l2.length cap1∧wr.ownsRow (w.heap.size+1) 207 1 (.slice (some ⟨g1,0,none⟩) l2.length cap1) l2.length (u32s l2)∧wr.ownsRow (g1+1) 207 1 cv c.length (u32s c)∧ChR N l2 c∧c.length≤32*l.length∧Below g1 w2 wr) (fun _ cv _=>32*l.length+1-(match cv with | .slice _ n _=>n | _=>0))
  case atStart=>exact ⟨l,[],rfl,HOW.out,World.ownsRow_nil _ _ _ _,HCH.out,by simp,Below.refl _ _⟩
  case round=>
    obtain ⟨l2,c,rfl,hown,hch,hcr,hcl,hbel⟩:=hrel;have hlt:=(hown.lt g1 rfl).2;have HO:=Lib.hid hown;have HC:=Lib.hid hch;have HCR:=Lib.hid hcr;have HBl:=Lib.hid hbel;clear hown hch hcr hbel HOW HCH
    by_cases h2:l2=[]
    · have hnp:¬(0:Int)<(l2.length:Int):=by rw[h2];simp
      obtain ⟨hT,hcne⟩:=(show ChR N [] c by have:=HCR.out;rwa [h2] at this).done;have hcpos:0<c.length:=List.length_pos_iff.2 hcne;have HT:=Lib.hid hT;have HLC:=Lib.hid HCR.out.lt;have hWc:Ws c:=fun x hx=>by have:=HLC.out x hx;rw[BB_eq];omega
      obtain ⟨gc,capc,hcv,hgc,hccap⟩:=ownsW_shape HC.out hcpos;subst hcv;have HCW:=Lib.hid (ownsW_WS HC.out hWc);have hccm:capc≤9223372036854775807:=HCW.out.most;have hmk:=mk_bytes (c.length*9+1) (by omega) ((c.length:Int)*9+1) (by omega);have HOB:=Lib.hid (OB.made wr (c.length*9+1) (by omega));have HBA:Hid (Below wr.heap.size wr (wr.alloc (.cells (madeCells #[.int .u8 0] (c.length*9+1)) 5))):=Lib.hid ((Below.refl _ _).alloc (Nat.le_refl _) _);have hbx0:=(HBl.out.block w.heap.size (by omega)).trans HBX.out;have hbx1:=heap_cell hbx0 1;have hbxs:=lt_of_heap hbx0;have HFAR:Hid (Below w.heap.size w wr):=Lib.hid (HB2.out.trans (HBl.out.mono (by omega)));have HEr:Hid (Env wr):=Lib.hid (HE0.out.far HFAR.out);have HLEN:=Lib.hid (chunksT_len c HLC.out);clear hT hcne hWc hbx0 HC HCR HO HBl HBX HB2 HLT h2
      simp at hbx1
      obtain ⟨wA,rfl⟩:∃wo:World,wo=wr:=⟨_,rfl⟩
      go_upto_if 60 with fail
      go_cut [8] (fun ov wx=>OB wx wA.heap.size ov (if b then [45] else [])∧Below wA.heap.size wA wx)
      case first=>
        cases b
        · go_wp2
          go_meet
          exact ⟨HOB.out,HBA.out⟩
        · go_wp2_with (at_builtin;refine wpList_append_own _ rfl _ _ 99 rfl wA.heap.size 5 j0 (.int .u8 0) 1 1 Tryz.underlying99 hj hy0 hy1 hy2 rfl (by decide) _ 0 _ rfl (World.ownsRow.alloc HOB.out _) ⟨wA.heap.size+1,0,none⟩ 1 1 [.int .u8 45] rfl rfl (World.news_of_block (cs:=#[.int .u8 45]) (t:=5) (fr:=(0,0)) (new_second wA _ _)) (by simp[Value.oneCell']) (by unfold maxLen;omega) (by omega) (by simp;omega) ?_)
          intro v4 w4 hown4 hgrow4 _;have HB4:=Lib.hid ((HBA.out.alloc (by simp) _).grown hgrow4 (by simp;omega) (fun j hj=>(HOB.out.lt j hj).1));have HO4:=Lib.hid hown4;clear hown4 hgrow4
          go_wp2
          go_meet
          exact ⟨HO4.out,HB4.out⟩
      case rest=>
        obtain ⟨hob,hbc⟩:=hcut;have HOC:=Lib.hid hob;have HBC:=Lib.hid hbc;clear hob hbc HOB HBA hmk
        go_wp2
        go_loopw [8,9] (fun ov iv wx=>∃(k:Nat) (o:List UInt8),k≤c.length∧iv=.int .i64 ((k:Int)-1)∧o=(if b then [45] else [])++chunksT (c.drop k)∧OB wx wA.heap.size ov o∧Below wA.heap.size wA wx) (fun _ iv _=>(intOf iv+1).toNat)
        case atStart=>exact ⟨c.length,_,Nat.le_refl _,rfl,by rw[List.drop_of_length_le (Nat.le_refl _)];simp[chunksT],HOC.out,HBC.out⟩
        case round=>
          clear HOC HBC;obtain ⟨k,o,hk,rfl,ho,hob,hbx⟩:=hrel;have HO:=Lib.hid ho;have HOBx:=Lib.hid hob;have HBx:=Lib.hid hbx;have hszx:=hbx.size
          have hol:o.length≤9*c.length+1:=by
            rw[ho,List.length_append];have h1:=chunksT_len (c.drop k) (fun x hx=>HLC.out x (List.mem_of_mem_drop hx));rw[List.length_drop] at h1;have h2:(if b then [(45:UInt8)] else []).length≤1:=by cases b <;> simp
            omega
          clear ho hob hbx;rcases Nat.eq_zero_or_pos k with h0 | h0
          · subst h0
            have hE:o=decI (sgn b N):=by
              rw[HTXT.out,HO.out,List.drop_zero,HT.out];cases b <;> rfl
            have hop:0<o.length:=by
              rw[HO.out,List.drop_zero,HT.out,List.length_append];have:=decN_len_pos N;omega
            have HEE:=Lib.hid hE;obtain ⟨g3,cap3,hv3⟩:=OB.shape HOBx.out hop;subst hv3
            have hcv:Sem.run Tryz.prog (convert 99 9 (.slice (some ⟨g3,0,none⟩) o.length cap3)) wr=.ok (.string ⟨o.toArray⟩) wr:=
              run_convert_bytes_back (P:=Tryz.prog) wr 99 9 5 ⟨g3,0,none⟩ cap3 o Tryz.underlying99 Tryz.underlying5 Tryz.underlying9 HOBx.out.cells.2
            clear hE
            go_wp2
            go_ret
            exact ⟨by rw[HEE.out];rfl,HFAR.out.trans (HBx.out.mono HFAR.out.size)⟩
          · have hck:=HCW.out.keep HBx.out (i:=k-1) (by omega);rw[Nat.zero_add] at hck;have p0:(0:Int)≤(k:Int)-1:=by omega
            have p1:((k:Int)-1).toNat=k-1:=by omega
            have p2:(k:Int)-1<(c.length:Int):=by omega
            have hxl:c.getD (k-1) 0<1000000000:=by
              rw[getD_at c (k-1) (by omega)];exact HLC.out _ (List.getElem_mem _)
            have HTX0:=Lib.hid (chunksT_drop (c:=c) (i:=k-1) (by omega));have hkk:k-1+1=k:=by omega
            rw[hkk] at HTX0;generalize c.getD (k-1) 0=x at *;have hx0:(0:Int)≤(x:Int):=by omega
            have hit:=Tryz.strconv_Itoa x (by omega) (by omega) wr (HEr.out.far HBx.out).tab;rw[itoa_eq,decI_nat] at hit;have hdl1:=decN_len_le (n:=x) (k:=9) (by omega) (by omega)
            go_wp2_with fail
            refine hit.mono ?_;rintro e w5 ⟨rfl,kd,os,hw5⟩;have hb5:Below wr.heap.size wr w5:=by rw[hw5];exact Lib.below_grow wr.heap.size _ (Nat.le_refl _) kd os
            have HOB5:Hid (OB w5 wA.heap.size _ o):=Lib.hid (own_below HOBx.out hb5 (Nat.le_refl _));have HB5:=Lib.hid (HBx.out.trans (hb5.mono hszx));have hsz5:=HB5.out.size;clear hw5 hb5 hit HOBx HBx hck
            by_cases hlast:k<c.length
            · have q1:(k:Int)-1<(c.length:Int)-1:=by omega
              have HTX:Hid ((if b then [45] else [])++chunksT (c.drop (k-1))=o++List.replicate (9-(decN x).length) 48++decN x):=Lib.hid (by rw[HTX0.out,if_pos hlast,HO.out];simp[List.append_assoc])
              go_wp2_with fail
              go_loopw [8,11] (fun ov jv wx=>∃m:Nat,(decN x).length≤m∧m≤9∧jv=.int .i64 m∧OB wx wA.heap.size ov (o++List.replicate (m-(decN x).length) 48)∧Below wA.heap.size wA wx) (fun _ jv _=>9-(intOf jv).toNat)
              case atStart=>exact ⟨(decN x).length,Nat.le_refl _,hdl1,by simp,by rw[Nat.sub_self];simpa using HOB5.out,HB5.out⟩
              case round=>
                obtain ⟨m,hm1,hm2,rfl,hob6,hb6⟩:=hrel;have HOB6:=Lib.hid hob6;have HB6:=Lib.hid hb6;have hsz6:=hb6.size;clear hob6 hb6 HOB5 HB5
                by_cases hm9:m<9
                · go_wp2_with (at_builtin;refine wpList_append_own _ rfl _ _ 99 rfl wA.heap.size 5 j0 (.int .u8 0) 1 1 Tryz.underlying99 hj hy0 hy1 hy2 rfl (by decide) _ (o++List.replicate (m-(decN x).length) 48).length _ rfl (World.ownsRow.alloc HOB6.out _) ⟨wr.heap.size,0,none⟩ 1 1 [.int .u8 48] rfl rfl (World.news_of_block (cs:=#[.int .u8 48]) (t:=5) (fr:=(0,0)) (heap_alloc_new wr _)) (by simp[Value.oneCell']) (by simp;unfold maxLen;omega) (by simp;omega) (by simp;omega) ?_)
                  intro v7 w7 hown7 hgrow7 _;have HB7:=Lib.hid ((HB6.out.alloc (by omega) _).grown hgrow7 (by simp;omega) (fun j hj=>(HOB6.out.lt j hj).1))
                  have HOB7:Hid (OB w7 wA.heap.size v7 (o++List.replicate (m+1-(decN x).length) 48)):=Lib.hid (by
                    rw[show m+1-(decN x).length=m-(decN x).length+1 by omega,List.replicate_succ',←List.append_assoc];unfold OB;rw[List.length_append,List.length_singleton,bcs_append,List.length_append,List.length_replicate]
                    exact hown7)
                  clear hown7 hgrow7
                  go_wp2
                  exact ⟨⟨m+1,by omega,by omega,by go_num,HOB7.out,HB7.out⟩,by simp[intOf];omega⟩
                · obtain rfl:m=9:=by omega
                  have hq1:(o++List.replicate (9-(decN x).length) 48).length=o.length+(9-(decN x).length):=by simp
                  obtain ⟨o2,ho2⟩:∃o2,o++List.replicate (9-(decN x).length) 48=o2:=⟨_,rfl⟩
                  rw[ho2] at hq1 HOB6 HTX;have HQ1:=Lib.hid hq1;clear ho2 hq1
                  go_wp2_with (at_builtin;refine Lib.wpList_append_own_string _ rfl _ _ 99 9 rfl wA.heap.size 5 j0 Tryz.underlying99 Tryz.underlying9 hj hy0 hy1 hy2 _ o2.length _ rfl (HOB6.out) ⟨(decN x).toArray⟩ rfl (by have:=HQ1.out;rw[sz_txt];unfold maxLen;omega) (by have:=HQ1.out;rw[sz_txt];omega) (hsz6) ?_)
                  intro v7 w7 hown7 hgrow7 _;have HB7:=Lib.hid (HB6.out.grown hgrow7 (hsz6) (fun j hj=>(HOB6.out.lt j hj).1))
                  have HOB7:Hid (OB w7 wA.heap.size v7 ((if b then [45] else [])++chunksT (c.drop (k-1)))):=Lib.hid (by
                    rw[HTX.out];unfold OB;have h:=hown7;rw[bcs_str,←bcs_append] at h
                    simpa [ByteArray.size,Nat.add_assoc] using h)
                  clear hown7 hgrow7
                  go_wp2
                  exact ⟨⟨k-1,_,by omega,by congr 1;omega,rfl,HOB7.out,HB7.out⟩,by simp[intOf];omega⟩
            · have q1:¬(k:Int)-1<(c.length:Int)-1:=by omega
              have HTX:Hid ((if b then [45] else [])++chunksT (c.drop (k-1))=o++decN x):=Lib.hid (by rw[HTX0.out,if_neg hlast,HO.out];simp[List.append_assoc]);have HOB6:=HOB5;have HB6:=HB5;have HQ1:Hid (o.length=o.length):=Lib.hid rfl
              go_wp2_with (at_builtin;refine Lib.wpList_append_own_string _ rfl _ _ 99 9 rfl wA.heap.size 5 j0 Tryz.underlying99 Tryz.underlying9 hj hy0 hy1 hy2 _ o.length _ rfl (HOB6.out) ⟨(decN x).toArray⟩ rfl (by have:=HQ1.out;rw[sz_txt];unfold maxLen;omega) (by have:=HQ1.out;rw[sz_txt];omega) (hsz5) ?_)
              intro v7 w7 hown7 hgrow7 _;have HB7:=Lib.hid (HB6.out.grown hgrow7 (hsz5) (fun j hj=>(HOB6.out.lt j hj).1))
              have HOB7:Hid (OB w7 wA.heap.size v7 ((if b then [45] else [])++chunksT (c.drop (k-1)))):=Lib.hid (by
                rw[HTX.out];unfold OB;have h:=hown7;rw[bcs_str,←bcs_append] at h
                simpa [ByteArray.size,Nat.add_assoc] using h)
              clear hown7 hgrow7
              go_wp2
              exact ⟨⟨k-1,_,by omega,by congr 1;omega,rfl,HOB7.out,HB7.out⟩,by simp[intOf];omega⟩
    · have hp:(0:Int)<(l2.length:Int):=by have:=List.length_pos_iff.2 h2;omega
      have hfew:c.length<32*l.length:=HCR.out.few h2 HLT.out;have HWL:=Lib.hid HCR.out.nl.1;have hl2le:l2.length≤9223372036854775807:=by have:=(ownsW_WS HO.out HWL.out);have h1:=this.le;have h2:=this.most;omega
      obtain ⟨ca,cc,hcv⟩:=ownsW_len HC.out;subst hcv;have H2:=Lib.hid h2;clear h2;obtain ⟨wo,rfl⟩:∃wo:World,wo=wr:=⟨_,rfl⟩
      go_wp2
      go_loopw [5,6] (fun rv iv wr=>∃(k rr:Nat) (q:List Nat),k≤l2.length∧iv=.int .i64 ((k:Int)-1)∧rv=.int .u64 rr∧DivI l2 q 1000000000 k rr∧wr.ownsRow (w.heap.size+1) 207 1 (.slice (some ⟨g1,0,none⟩) q.length cap1) q.length (u32s q)∧wr.ownsRow (g1+1) 207 1 (.slice ca c.length cc) c.length (u32s c)∧Below g1 w2 wr) (fun _ iv _=>(intOf iv+1).toNat)
      case atStart=>exact ⟨l2.length,0,l2,Nat.le_refl _,rfl,rfl,DivI.start l2 _ HWL.out (by omega),HO.out,HC.out,HBl.out⟩
      case round=>
        obtain ⟨k,rr,q,hk,rfl,rfl,hdv,hown,hch,hbel⟩:=hrel;have hql:=hdv.len;have hrr:rr<1000000000:=hdv.r1;have hrr0:(0:Int)≤(rr:Int):=by omega
        have hlt:=(hown.lt g1 rfl).2;have HD:=Lib.hid hdv;have HO2:=Lib.hid hown;have HC2:=Lib.hid hch;have HBl2:=Lib.hid hbel;clear hdv hch hbel HO HC HBl;rcases Nat.eq_zero_or_pos k with h0 | h0
        · subst h0;obtain ⟨d1,d2⟩:=HD.out.done;have HSTEP:=Lib.hid (HCR.out.step H2.out d1 d2 HD.out.ws);have htr:=trim_any (some ⟨g1,0,none⟩) g1 0 cap1 q wr (ownsW_WS hown HD.out.ws);rw[hql] at htr;have HOT:=Lib.hid (ownsW_take hown (trimW q).length (trimW_len q));rw[←trimW_take] at HOT;clear d1 d2 hown
          go_wp2_with fail
          refine htr.mono ?_;rintro e w3 ⟨rfl,rfl⟩;clear htr
          go_wp2_with (at_builtin;refine wpList_append_own _ rfl _ _ 71 rfl (g1+1) 207 i0 (.int .u32 0) 1 4 Tryz.underlying71 hi hz0 hz1 hz2 rfl (by decide) _ c.length _ rfl (HC2.out.alloc _) ⟨wr.heap.size,0,none⟩ 1 1 [.int .u32 rr] rfl rfl (World.news_of_block (cs:=#[.int .u32 rr]) (t:=207) (fr:=(0,0)) (heap_alloc_new wr _)) (by simp[Value.oneCell']) (by unfold maxLen;omega) (by omega) (by simp;omega) ?_)
          intro v4 w4 hown4 hgrow4 _;have hne4:∀j,(Value.slice ca c.length cc).ownBlock=some j→g1+1≤j:=fun j hj=>(HC2.out.lt j hj).1
          have HO4:=Lib.hid (own_grown (HOT.out.alloc _) hgrow4 (fun j hj e=>by have h1:=hne4 j hj;injection e with e;have e:g1=j:=e;omega));have HB4:=Lib.hid ((HBl2.out.alloc (by omega) _).grown hgrow4 (by simp;omega) (fun j hj=>by have:=hne4 j hj;omega))
          have HC4:Hid (w4.ownsRow (g1+1) 207 1 v4 (c++[rr]).length (u32s (c++[rr]))):=Lib.hid (by
            rw[List.length_append,List.length_singleton];simpa [u32s] using hown4)
          have hv4:∃a' c',v4=.slice a' (c.length+1) c':=by
            obtain ⟨a',c',h⟩:=ownsW_len HC4.out;exact ⟨a',c',by rw[h,List.length_append,List.length_singleton]⟩
          obtain ⟨a',c',rfl⟩:=hv4;clear hown4 hgrow4
          go_wp2
          refine ⟨⟨trimW q,c++[rr],rfl,HO4.out,HC4.out,HSTEP.out,by rw[List.length_append,List.length_singleton];omega,HB4.out⟩,?_⟩;show 32*l.length+1-(c.length+1)<32*l.length+1-c.length
          omega
        · obtain ⟨hcl,hfz⟩:=ownsW_at hown (k-1) (by omega);have hlow:=HD.out.low (k-1) (by omega);rw[hlow] at hcl;have hx:=at_one (i:=k-1) HWL.out;have hx0:(0:Int)≤((l2.getD (k-1) 0:Nat):Int):=by omega
          have HSP:Hid (∀t,t=l2.getD (k-1) 0+4294967296*rr→DivI l2 (q.set (k-1) (t / 1000000000)) 1000000000 (k-1) (t % 1000000000)∧t / 1000000000<BB):=Lib.hid (fun t ht=>by
            have h:=HD.out;rw[show k=k-1+1 by omega] at h
            exact h.step HWL.out (by omega) t (by rw[ht,BB_eq,Nat.mul_comm rr];omega))
          have HSET:=Lib.hid (ownsW_set hown);have hor:=or_word rr (l2.getD (k-1) 0) (by omega) (by omega);have p0:(0:Int)≤(k:Int)-1:=by omega
          have p1:((k:Int)-1).toNat=k-1:=by omega
          have p2:(k:Int)-1<(l2.length:Int):=by omega
          clear hown hlow;generalize l2.getD (k-1) 0=x at *;have hP1:x+4294967296*rr<18446744073709551616:=by omega
          obtain ⟨s1,s2⟩:=HSP.out _ rfl;have S1:=Lib.hid s1;rw[BB_eq] at s2;clear s1 HSP;generalize x+4294967296*rr=P at *;have hP0:(0:Int)≤(P:Int):=by omega
          have e1:(P:Int) / 1000000000=((P / 1000000000:Nat):Int):=by omega
          have e2:(P:Int) % 1000000000=((P % 1000000000:Nat):Int):=by omega
          have E1:=Lib.hid e1;have E2:=Lib.hid e2;clear e1 e2
          go_wp2
          rw[E1.out,E2.out];exact ⟨⟨k-1,P % 1000000000,q.set (k-1) (P / 1000000000),by omega,by congr 1;omega,rfl,S1.out,by (have h:=HSET.out (k-1) (P / 1000000000);rw[List.length_set] at h ⊢;exact h),own_set_other HC2.out (by omega) _ _,HBl2.out.setCell (Nat.le_refl _) _⟩,by simp[intOf];omega⟩
theorem strAt_any (z:Int):StrAt z:=fun v w h hv=>by
  rcases hv with ⟨rfl,hs⟩ | ⟨b,g,off,cap,l,rfl,hw,hl,rfl⟩
  · exact intString_small z w h hs
  · exact intString_big b g off cap l w h hw hl
end

section
theorem ratString_frac (v:Value) (q:Rat) (w:World) (h:RV w v q) (hE:Env w) (hd:q.den≠1) (hsz:(decI q.num).length+(decI q.den).length≤1000000000):Calls Tryz.prog 97 #[v] w fun e w'=>e=.returned (.string ⟨(textQ q).toArray⟩)∧Below w.heap.size w w':=by
  obtain ⟨s1,b1,a1,n1,c1,s2,b2,a2,n2,c2,rfl,h1,h2⟩:=rv_form h;have hi:=fun o=>ratIsInt_any (.agg #[.int .i64 s1,.bool b1,.slice a1 n1 c1,.int .i64 s2,.bool b2,.slice a2 n2 c2]) q (w.alloc o) (h.far ((Below.refl _ _).alloc (Nat.le_refl _) o))
  have HB0:=Lib.hid ((Below.refl w.heap.size w).alloc (Nat.le_refl _) (.cells #[.int .i64 s1,.bool b1,.slice a1 n1 c1,.int .i64 s2,.bool b2,.slice a2 n2 c2] 75));have hdd:denI q=q.den:=by unfold denI;rw[if_neg hd]
  rw[hdd] at h2;have hn:=fun W (hW:Below w.heap.size w W)=>strAt_any q.num _ W (hE.far hW) (h1.far hW)
  have hm:=fun W (hW:Below w.heap.size w W)=>strAt_any (q.den:Int) _ W (hE.far hW) (h2.far hW)
  have HT:=Lib.hid (textQ_den hd);have hdb:decide (q.den=1)=false:=by simpa using hd
  have hs1:(⟨(decI q.num).toArray⟩:ByteArray).size=(decI q.num).length:=sz_txt _;have hs2:(⟨(decI q.den).toArray⟩:ByteArray).size=(decI q.den).length:=sz_txt _
  have HS:Hid ((⟨(decI q.num).toArray⟩:ByteArray)++⟨#[47]⟩++⟨(decI q.den).toArray⟩=⟨(textQ q).toArray⟩):=Lib.hid (by
    rw[textQ_den hd];apply ByteArray.ext;rw[ByteArray.data_append,ByteArray.data_append];apply Array.toList_inj.1
    simp)
  rw[←hs1,←hs2] at hsz;generalize (⟨(decI q.num).toArray⟩:ByteArray)=t1 at *;generalize (⟨(decI q.den).toArray⟩:ByteArray)=t2 at *;have f1:¬(9223372036854775807≤t1.size):=by omega
  have f3:¬(9223372036854775807<t1.size+1):=by omega
  have f4:t1.size<9223372036854775807:=by omega
  have f2:¬(9223372036854775807<t1.size+1+t2.size):=by omega
  clear h hE h1 h2 hdd hs1 hs2 hsz hd
  go_enter Tryz.func97,Tryz.ntmps97
  go_wp2_with fail
  refine (hi _).mono ?_;rintro e w1 ⟨rfl,hb1⟩;have HR1:=Lib.hid ((hb1.block w.heap.size (by simp)).trans (heap_alloc_new w (.cells #[.int .i64 s1,.bool b1,.slice a1 n1 c1,.int .i64 s2,.bool b2,.slice a2 n2 c2] 75)));have HB1:=Lib.hid (HB0.out.trans (hb1.mono (by simp)));obtain ⟨y0,y1,y2,y3,y4,y5,-⟩:=Dozen.of HR1.out HR1.out;clear hb1 hi HB0;have hlt1:=lt_of_heap HR1.out
  go_wp2
  go_region_held3 (fun w'=>w'.cell? ⟨w.heap.size,0,none⟩=some (.int .i64 s1)∧w'.cell? ⟨w.heap.size,1,none⟩=some (.bool b1)∧w'.cell? ⟨w.heap.size,2,none⟩=some (.slice a1 n1 c1)∧w'.cell? ⟨w.heap.size,3,none⟩=some (.int .i64 s2)∧w'.cell? ⟨w.heap.size,4,none⟩=some (.bool b2)∧w'.cell? ⟨w.heap.size,5,none⟩=some (.slice a2 n2 c2))
    (first | exact ⟨y0,y1,y2,y3,y4,y5⟩ | exact K1 | exact K2 | go_keep)
    (first
      | (go_at_call 145
         first
         | (with_reducible refine (hn _ HB1.out.drew).mono ?_
            rintro e w2 ⟨rfl,hb2⟩;have HB2:=Lib.hid (HB1.out.drew.trans (hb2.mono HB1.out.size))
            have K1:=keep6 (show Below w1.drew.heap.size w1.drew w2 from hb2) hlt1 ⟨y0,y1,y2,y3,y4,y5⟩)
         | (with_reducible refine (hm _ HB2.out).mono ?_
            rintro e w3 ⟨rfl,hb3⟩;have HB3:=Lib.hid (HB2.out.trans (hb3.mono HB2.out.size))
            have K2:=keep6 hb3 (Nat.lt_of_lt_of_le hlt1 hb2.size) K1)))
  all_goals go_wp2
  all_goals go_ret
  all_goals exact ⟨ret_str HS.out,HB3.out⟩
theorem ratString_any (v:Value) (q:Rat) (w:World) (h:RV w v q) (hE:Env w) (hsz:(decI q.num).length+(decI q.den).length≤1000000000):Calls Tryz.prog 97 #[v] w fun e w'=>e=.returned (.string ⟨(textQ q).toArray⟩)∧Below w.heap.size w w':=by
  by_cases hd:q.den=1
  · exact ratString_int v q w h hE (strAt_any _) hd
  · exact ratString_frac v q w h hE hd hsz
end
end Go.Proofs.YtpkfnnkbfphfbaaGreatDoor
/- Rat.Add of package exact. -/
namespace Go.Proofs.YtpkfnnkbfphfbaaGreatDoor
open Go.RowKit Nmx

def RS (k:Nat) (q:Rat):Prop:=q.num.natAbs<BB ^ k∧q.den<BB ^ k
theorem bb_le {k l:Nat} (h:k≤l):BB ^ k≤BB ^ l:=Nat.pow_le_pow_right BB_pos h
theorem fit_of {z:Int} {k:Nat} (h:z.natAbs<BB ^ k) (hk:k≤1000):Fit z:=by
  obtain ⟨m,hm⟩:∃m,k+m=1000:=⟨1000-k,by omega⟩
  unfold Fit;rw[←hm];exact Nat.lt_of_lt_of_le h (bb_le (Nat.le_add_right _ _))
theorem denI_one {q:Rat} (h:q.den=1):denI q=0:=by unfold denI;rw[if_pos h]



section
theorem numValid_any (s:ByteArray) (w:World) (hs:s.size≤1000000) (h:Env w) (hg:GcdAt s.data.toList):Calls Tryz.prog 33 #[.string s] w fun e w'=>e=.returned (.bool (ratF s.data.toList).isSome)∧Below w.heap.size w w':=by
  have hp:=parse_env s w hs h hg;unfold ParsePost at hp;generalize ratF s.data.toList=oq at *
  go_enter Tryz.func33,Tryz.ntmps33
  go_wp2_with fail
  refine hp.mono ?_;rintro e w1 ⟨v,rfl,hv,hb1⟩;obtain ⟨s1,b1,a1,n1,c1,s2,b2,a2,n2,c2,rfl,-,-⟩:=rv_form hv;have HB:=Lib.hid hb1;clear hv hp hb1
  go_wp2
  go_ret
  exact ⟨rfl,HB.out.alloc HB.out.size _⟩
end



end Go.Proofs.YtpkfnnkbfphfbaaGreatDoor

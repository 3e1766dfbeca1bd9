import Derived.Test.YtpkfnnkbfphfbaaGreatDoorHNI
import Derived.Lib.SmallJoins
import Derived.StillTailTactics
import Derived.Lib.AppendIntMem
import Derived.Deep.CutBlock
set_option maxRecDepth 100000
set_option maxHeartbeats 40000000
open Go.Lib (hid)
namespace Go.Proofs.YtpkfnnkbfphfbaaGreatDoor
open Go.RowKit Nmx Go.Proofs.Tryz
theorem ox (q:Rat):decide (fE q=0)=decide (q.den=1):=by
 have:=q.den_nz;unfold fE
 by_cases h:q.den=1
 · rw[aF h];simp[h]
 · rw[aB h];simp[h];exact this
theorem bG {w:World} {v:Value} {q:Rat} (h:RV w v q):∃s1 b1 a1 n1 c1 s2 b2 a2 n2 c2,v=.agg #[.int .i64 s1,.bool b1,.slice a1 n1 c1,.int .i64 s2,.bool b2,.slice a2 n2 c2]∧IV w (.agg #[.int .i64 s1,.bool b1,.slice a1 n1 c1]) q.num∧IV w (.agg #[.int .i64 s2,.bool b2,.slice a2 n2 c2]) (fE q):=h
theorem eh (v:Value) (q:Rat) (w:World) (h:RV w v q):Calls prog 57 #[v] w fun e w'=>e=.returned (.bool (decide (q.den=1)))∧Below w.heap.size w w':=by
 obtain ⟨s1,b1,a1,n1,c1,s2,b2,a2,n2,c2,rfl,h1,h2⟩:=bG h;have hz:=fun o=>dV _ _ _ (h2.alloc_of o)
 rw[ox] at hz;clear h h1 h2
 go_enter func57,ntmps57
 go_wp2_with fail
 refine (hz _).mono ?_;rintro e w1 ⟨rfl,hb1⟩
 go_wp2
 go_ret
 exact ⟨rfl,((am _ _).alloc (aj _) _).trans (hb1.mono (by simp))⟩
theorem qX (v:Value) (q:Rat) (w:World) (h:RV w v q):Calls prog 194 #[v] w fun e w'=>e=.returned (.int .i64 (dd q.num))∧Below w.heap.size w w':=by
 obtain ⟨s1,b1,a1,n1,c1,s2,b2,a2,n2,c2,rfl,h1,h2⟩:=bG h;have hz:=fun o=>fD _ _ _ (h1.alloc_of o)
 clear h h1 h2
 go_enter func194,ntmps194
 go_wp2_with fail
 refine (hz _).mono ?_;rintro e w1 ⟨rfl,hb1⟩
 go_wp2
 go_ret
 exact ⟨rfl,((am _ _).alloc (aj _) _).trans (hb1.mono (by simp))⟩
theorem mC (v:Value) (q:Rat) (w:World) (h:RV w v q):Calls prog 142 #[v] w (cD q.num w):=by
 obtain ⟨s1,b1,a1,n1,c1,s2,b2,a2,n2,c2,rfl,h1,h2⟩:=bG h;have H1:=hid h1;clear h h1 h2
 go_enter func142,ntmps142
 go_wp2
 have hbl:=bE w (.cells #[.int .i64 s1,.bool b1,.slice a1 n1 c1,.int .i64 s2,.bool b2,.slice a2 n2 c2] 75) (.cells #[.int .i64 s1,.bool b1,.slice a1 n1 c1] 73);exact bodyPost_ret (v:=.agg #[.int .i64 s1,.bool b1,.slice a1 n1 c1]) (by simp[results,results142,go_sem]) rfl ⟨_,rfl,H1.out.far hbl,hbl⟩
def mD (l:List UInt8):Prop:=∀n d,br (dB l)=some n→br (bC l)=some d→1<d→qW n d
structure Env (w:World):Prop where
 big:0<w.heap.size
 len:∃m:Int,w.cell? ⟨0,0,none⟩=some (.int .i64 m)
 tab:Lib.TabIs prog w "internal/strconv.uint64pow10" .u64 Lib.pow10Tab
theorem Env.far {w w1:World} (h:Env w) (hb:Below w.heap.size w w1):Env w1:=
 ⟨aC h.big hb.size,let ⟨m,hm⟩:=h.len;⟨m,(hb.cell (p:=⟨0,0,none⟩) h.big).trans hm⟩,Go.Joins.tab_stays (g:=3) (by kernel_rfl) h.tab hb (aj _)⟩
theorem fh (s:ByteArray) (w:World) (hs:s.size≤1000000) (h:Env w) (hg:mD s.data.toList):Calls prog 56 #[.string s] w (cm s.data.toList w):=by
 obtain ⟨m,hm⟩:=h.len;exact vR m s w hs h.big hm hg
theorem j6 (s:ByteArray) (w:World) (hs:s.size≤1000000) (h:Env w) (hg:mD s.data.toList):Calls prog 32 #[.string s] w fun e w'=>e=.returned (.bool (match bp s.data.toList with | some q=>decide (q.den=1) | none=>false))∧Below w.heap.size w w':=by
 have hp:=fh s w hs h hg;cases hq:bp s.data.toList with
 | none=>
   unfold cm at hp;rw[hq] at hp;clear hq
   go_enter func32,ntmps32
   go_wp2_with fail
   refine hp.mono ?_;rintro e w1 ⟨v,rfl,hv,hb1⟩;obtain ⟨s1,b1,a1,n1,c1,s2,b2,a2,n2,c2,rfl,h1,h2⟩:=bG hv;have HB:=hid hb1;clear hv h1 h2 hp hb1
   go_wp2_with fail
   go_ret
   exact ⟨rfl,HB.out.alloc HB.out.size _⟩
 | some q=>
   unfold cm at hp;rw[hq] at hp;clear hq
   go_enter func32,ntmps32
   go_wp2_with fail
   refine hp.mono ?_;rintro e w1 ⟨v,rfl,hv,hb1⟩;have hi:=fun o=>eh v q (w1.alloc o) (hv.far ((am _ _).alloc (aj _) _))
   obtain ⟨s1,b1,a1,n1,c1,s2,b2,a2,n2,c2,rfl,h1,h2⟩:=bG hv;have HB:=hid hb1;clear hv h1 h2 hp hb1
   go_wp2_with fail
   refine (hi _).mono ?_;rintro e w2 ⟨rfl,hb2⟩;have HB2:=hid ((HB.out.alloc HB.out.size _).trans (hb2.mono (by have:=HB.out.size;simp;omega)));clear hb2 hi
   go_wp2_with fail
   go_ret
   exact ⟨rfl,HB2.out⟩
theorem lx (s:ByteArray) (w:World) (hs:s.size≤1000000) (h:Env w) (hg:mD s.data.toList):Calls prog 155 #[.string s] w fun e w'=>e=.returned (.int .i64 (dd ((bp s.data.toList).getD 0).num))∧Below w.heap.size w w':=by
 have hp:=fh s w hs h hg;unfold cm at hp;generalize bp s.data.toList=oq at *
 go_enter func155,ntmps155
 go_wp2_with fail
 refine hp.mono ?_;rintro e w1 ⟨v,rfl,hv,hb1⟩;have hi:=fun o=>qX v _ (w1.alloc o) (hv.far ((am _ _).alloc (aj _) _))
 obtain ⟨s1,b1,a1,n1,c1,s2,b2,a2,n2,c2,rfl,h1,h2⟩:=bG hv;have HB:=hid hb1;clear hv h1 h2 hp hb1
 go_wp2_with fail
 refine (hi _).mono ?_;rintro e w2 ⟨rfl,hb2⟩;have HB2:=hid ((HB.out.alloc HB.out.size _).trans (hb2.mono (by have:=HB.out.size;simp;omega)));clear hb2 hi
 go_wp2_with fail
 go_ret
 exact ⟨rfl,HB2.out⟩
theorem fi {w:World} {R g:Nat} (h:g≠R) (x0 x1 x2 x3 x4 x5:Value) (i:Nat):((((((w.setCell ⟨R,0,none⟩ x0).setCell ⟨R,1,none⟩ x1).setCell ⟨R,2,none⟩ x2).setCell ⟨R,3,none⟩ x3).setCell ⟨R,4,none⟩ x4).setCell ⟨R,5,none⟩ x5).cell? ⟨g,i,none⟩=w.cell? ⟨g,i,none⟩:=by
 apply World.cell?_of_block;exact bc h x0 x1 x2 x3 x4 x5
def Dozen (w:World) (g h:Nat) (x0 x1 x2 x3 x4 x5 y0 y1 y2 y3 y4 y5:Value):Prop:=
 w.cell? ⟨g,0,none⟩=some x0∧w.cell? ⟨g,1,none⟩=some x1∧w.cell? ⟨g,2,none⟩=some x2∧w.cell? ⟨g,3,none⟩=some x3∧w.cell? ⟨g,4,none⟩=some x4∧w.cell? ⟨g,5,none⟩=some x5∧w.cell? ⟨h,0,none⟩=some y0∧w.cell? ⟨h,1,none⟩=some y1∧w.cell? ⟨h,2,none⟩=some y2∧w.cell? ⟨h,3,none⟩=some y3∧w.cell? ⟨h,4,none⟩=some y4∧w.cell? ⟨h,5,none⟩=some y5
theorem Dozen.of {w:World} {g h:Nat} {x0 x1 x2 x3 x4 x5 y0 y1 y2 y3 y4 y5:Value} {t t':TypeId} (h1:w.heap[g]? =some (.cells #[x0,x1,x2,x3,x4,x5] t (0,0))) (h2:w.heap[h]? =some (.cells #[y0,y1,y2,y3,y4,y5] t' (0,0))):Dozen w g h x0 x1 x2 x3 x4 x5 y0 y1 y2 y3 y4 y5:=
 ⟨aa h1 0,aa h1 1,aa h1 2,aa h1 3,aa h1 4,aa h1 5,aa h2 0,aa h2 1,aa h2 2,aa h2 3,aa h2 4,aa h2 5⟩
theorem RV.heap_same {w w':World} {v:Value} {q:Rat} (h:RV w v q) {R:Nat} {cs:Array Value} {t:TypeId} {fr:Nat×Nat} (hR:w.heap[R]? =some (.cells cs t fr)) (ht:t≠207) (ho:∀k,k≠R→w'.heap[k]? =w.heap[k]?):RV w' v q:=
 let ⟨s1,b1,a1,n1,c1,s2,b2,a2,n2,c2,e,h1,h2⟩:=h
 ⟨s1,b1,a1,n1,c1,s2,b2,a2,n2,c2,e,h1.heap_same hR ht ho,h2.heap_same hR ht ho⟩
def fF (a b:Option Rat) (w:World) (e:Ending) (w':World):Prop:=∃v1 v2,e=.returned (.tuple #[v1,v2,.bool (a.isSome && b.isSome)])∧RV w' v1 (a.getD 0)∧RV w' v2 (b.getD 0)∧Below w.heap.size w w'
theorem j7 {fn:Func} {t t' t2:Tmp} {a:Act} {w w4:World} {R R':Nat} {x0 x1 x2 x3 x4 x5 y0 y1 y2 y3 y4 y5:Value} {oa ob:Option Rat} (hres:fn.results=#[.cell t 75,.cell t' 75,.tmp t2]) (hd:a.defers=[])
    (ht:a.tmps.getD t undef=.pointer (some ⟨R,0,none⟩)) (ht':a.tmps.getD t' undef=.pointer (some ⟨R',0,none⟩)) (ht2:a.tmps.getD t2 undef=.bool (oa.isSome && ob.isSome))
    (h1:w4.heap[R]? =some (.cells #[x0,x1,x2,x3,x4,x5] 75 (0,0))) (h2:w4.heap[R']? =some (.cells #[y0,y1,y2,y3,y4,y5] 75 (0,0)))
    (hv:RV w4 (.agg #[x0,x1,x2,x3,x4,x5]) (oa.getD 0)) (hv':RV w4 (.agg #[y0,y1,y2,y3,y4,y5]) (ob.getD 0)) (hb:Below w.heap.size w w4):bodyPost prog fn (fF oa ob w) .ret a w4:=by
 have k0:=aa h1 0;have k1:=aa h1 1;have k2:=aa h1 2;have k3:=aa h1 3;have k4:=aa h1 4;have k5:=aa h1 5;have l0:=aa h2 0;have l1:=aa h2 1;have l2:=aa h2 2;have l3:=aa h2 3;have l4:=aa h2 4;have l5:=aa h2 5
 simp at k0 k1 k2 k3 k4 k5 l0 l1 l2 l3 l4 l5
 refine bodyPost_ret (v:=.tuple #[.agg #[x0,x1,x2,x3,x4,x5],.agg #[y0,y1,y2,y3,y4,y5],.bool (oa.isSome && ob.isSome)]) ?_ hd ⟨_,_,rfl,hv,hv',hb⟩;have g1:a.tmps[t]?.getD undef=.pointer (some ⟨R,0,none⟩):=by simpa using ht
 have g2:a.tmps[t']?.getD undef=.pointer (some ⟨R',0,none⟩):=by simpa using ht'
 have g3:a.tmps[t2]?.getD undef=.bool (oa.isSome && ob.isSome):=by simpa using ht2
 simp[results,hres,go_sem,g1,g2,g3,k0,k1,k2,k3,k4,k5,l0,l1,l2,l3,l4,l5]
def eD (s:ByteArray) (o:Option Rat):Prop:=∀W:World,Env W→Calls prog 56 #[.string s] W fun e w'=>∃v,e=.returned (.tuple #[v,.bool o.isSome])∧RV w' v (o.getD 0)∧Below W.heap.size W w'
theorem zi (s t:ByteArray) (w:World) (h:Env w) (hp:eD s (none:Option Rat)) (hp':eD t (none:Option Rat)):Calls prog 88 #[.string s,.string t] w (fF (none:Option Rat) (none:Option Rat) w):=by
 have HB0:=hid (bE w (.cells #[.int .i64 0,.bool false,.slice none 0 0,.int .i64 0,.bool false,.slice none 0 0] 75) (.cells #[.int .i64 0,.bool false,.slice none 0 0,.int .i64 0,.bool false,.slice none 0 0] 75));have HE:=hid h;clear h
 go_enter func88,ntmps88
 go_wp2_with fail
 refine (hp _ (HE.out.far HB0.out)).mono ?_;rintro e w1 ⟨v1,rfl,hv1,hb1⟩;have HV1:=hid hv1;obtain ⟨s1,b1,a1,n1,c1,s2,b2,a2,n2,c2,rfl,-,-⟩:=bG hv1;have HR1:=hid ((hb1.block w.heap.size (by simp;omega)).trans ((Below.heap_alloc _ _ _ (by simp)).trans (aq w _)));have HR2:=hid ((hb1.block (w.heap.size+1) (by simp)).trans (bM w _ _));have HB1:=hid (HB0.out.trans (hb1.mono (by simp;omega)));clear hb1 hv1 hp HB0;have HBA:=hid (HB1.out.alloc HB1.out.size (.cells #[.int .i64 s1,.bool b1,.slice a1 n1 c1,.int .i64 s2,.bool b2,.slice a2 n2 c2] 75))
 go_wp2_with fail
 refine (hp' _ (HE.out.far HBA.out)).mono ?_;rintro e w2 ⟨v2,rfl,hv2,hb2⟩;have HV2:=hid hv2;obtain ⟨s3,b3,a3,n3,c3,s4,b4,a4,n4,c4,rfl,-,-⟩:=bG hv2;have HA2:=hid ((hb2.block w1.heap.size (by simp)).trans (aq w1 _));have HV12:=hid ((HV1.out.far ((am _ _).alloc (aj _) _)).far hb2);have hl1:=ar HR1.out;have hl2:=ar HR2.out;have HR12:=hid ((hb2.block w.heap.size (by simp;omega)).trans ((Below.heap_alloc _ _ _ hl1).trans HR1.out));have HR22:=hid ((hb2.block (w.heap.size+1) (by simp;omega)).trans ((Below.heap_alloc _ _ _ hl2).trans HR2.out));have HB2:=hid (HBA.out.trans (hb2.mono HBA.out.size));have hlw:=hb2.size
 simp at hlw
 clear hb2 hv2 hp' HBA HR1 HR2 HV1 HB1
 have K0:Dozen (w2.alloc (.cells #[.int .i64 s3,.bool b3,.slice a3 n3 c3,.int .i64 s4,.bool b4,.slice a4 n4 c4] 75)) w1.heap.size w2.heap.size (.int .i64 s1) (.bool b1) (.slice a1 n1 c1) (.int .i64 s2) (.bool b2) (.slice a2 n2 c2) (.int .i64 s3) (.bool b3) (.slice a3 n3 c3) (.int .i64 s4) (.bool b4) (.slice a4 n4 c4):=
  Dozen.of ((Below.heap_alloc _ _ _ (ar HA2.out)).trans HA2.out) (aq w2 _)
 have HX:Hid ((w2.alloc (.cells #[.int .i64 s3,.bool b3,.slice a3 n3 c3,.int .i64 s4,.bool b4,.slice a4 n4 c4] 75)).heap[w.heap.size]? =some (.cells #[.int .i64 0,.bool false,.slice none 0 0,.int .i64 0,.bool false,.slice none 0 0] 75 (0,0))):=hid ((Below.heap_alloc _ _ _ (ar HR12.out)).trans HR12.out);have HY:Hid ((w2.alloc (.cells #[.int .i64 s3,.bool b3,.slice a3 n3 c3,.int .i64 s4,.bool b4,.slice a4 n4 c4] 75)).heap[w.heap.size+1]? =some (.cells #[.int .i64 0,.bool false,.slice none 0 0,.int .i64 0,.bool false,.slice none 0 0] 75 (0,0))):=hid ((Below.heap_alloc _ _ _ (ar HR22.out)).trans HR22.out);have HV3:=hid (HV12.out.far ((am w2.heap.size w2).alloc (aj _) (.cells #[.int .i64 s3,.bool b3,.slice a3 n3 c3,.int .i64 s4,.bool b4,.slice a4 n4 c4] 75)));have HV4:=hid (HV2.out.far ((am w2.heap.size w2).alloc (aj _) (.cells #[.int .i64 s3,.bool b3,.slice a3 n3 c3,.int .i64 s4,.bool b4,.slice a4 n4 c4] 75)));have HB3:=hid (HB2.out.alloc HB2.out.size (.cells #[.int .i64 s3,.bool b3,.slice a3 n3 c3,.int .i64 s4,.bool b4,.slice a4 n4 c4] 75));have KD:=hid K0;obtain ⟨k0,k1,k2,k3,k4,k5,l0,l1,l2,l3,l4,l5⟩:=K0;clear HR12 HR22 HA2 HV12 HV2 HB2 KD
 go_wp2_with fail
 generalize hW3:w2.alloc (.cells #[.int .i64 s3,.bool b3,.slice a3 n3 c3,.int .i64 s4,.bool b4,.slice a4 n4 c4] 75)=W3 at *;clear hW3;obtain ⟨⟨r0,r1,r2,r3,r4,r5⟩,fr⟩:=ResR.cells HX.out;obtain ⟨⟨q0,q1,q2,q3,q4,q5⟩,fq⟩:=ResR.cells HY.out;have fr0:=fr 0;have fr1:=fr 1;have fr2:=fr 2;have fr3:=fr 3;have fr4:=fr 4;have fr5:=fr 5;have fq0:=fq 0;have fq1:=fq 1;have fq2:=fq 2;have fq3:=fq 3;have fq4:=fq 4;have fq5:=fq 5;have ne1:w1.heap.size≠w.heap.size:=by omega
 have ne2:w2.heap.size≠w.heap.size:=by omega
 have ne3:w1.heap.size≠w.heap.size+1:=by omega
 have ne4:w2.heap.size≠w.heap.size+1:=by omega
 clear fr fq
 go_region
 go_wp2
 have e1:=dy HX.out (.int .i64 s1) (.bool b1) (.slice a1 n1 c1) (.int .i64 s2) (.bool b2) (.slice a2 n2 c2);have e2:=(bc (w:=W3) (R:=w.heap.size) (g:=w.heap.size+1) (by omega) (.int .i64 s1) (.bool b1) (.slice a1 n1 c1) (.int .i64 s2) (.bool b2) (.slice a2 n2 c2)).trans HY.out;have e3:=dy e2 (.int .i64 s3) (.bool b3) (.slice a3 n3 c3) (.int .i64 s4) (.bool b4) (.slice a4 n4 c4);have e4:=(bc (w:=dO W3 w.heap.size (.int .i64 s1) (.bool b1) (.slice a1 n1 c1) (.int .i64 s2) (.bool b2) (.slice a2 n2 c2)) (R:=w.heap.size+1) (g:=w.heap.size) (by omega) (.int .i64 s3) (.bool b3) (.slice a3 n3 c3) (.int .i64 s4) (.bool b4) (.slice a4 n4 c4)).trans e1;have v3:=(HV3.out.heap_same HX.out (by decide) (fun k hk=>bc hk (.int .i64 s1) (.bool b1) (.slice a1 n1 c1) (.int .i64 s2) (.bool b2) (.slice a2 n2 c2))).heap_same e2 (by decide) (fun k hk=>bc hk (.int .i64 s3) (.bool b3) (.slice a3 n3 c3) (.int .i64 s4) (.bool b4) (.slice a4 n4 c4));have v4:=(HV4.out.heap_same HX.out (by decide) (fun k hk=>bc hk (.int .i64 s1) (.bool b1) (.slice a1 n1 c1) (.int .i64 s2) (.bool b2) (.slice a2 n2 c2))).heap_same e2 (by decide) (fun k hk=>bc hk (.int .i64 s3) (.bool b3) (.slice a3 n3 c3) (.int .i64 s4) (.bool b4) (.slice a4 n4 c4));have bl:=cX (cX HB3.out (aj _) (.int .i64 s1) (.bool b1) (.slice a1 n1 c1) (.int .i64 s2) (.bool b2) (.slice a2 n2 c2)) (Nat.le_succ _) (.int .i64 s3) (.bool b3) (.slice a3 n3 c3) (.int .i64 s4) (.bool b4) (.slice a4 n4 c4)
 show bodyPost _ _ _ _ _ ((dO (dO W3 w.heap.size (.int .i64 s1) (.bool b1) (.slice a1 n1 c1) (.int .i64 s2) (.bool b2) (.slice a2 n2 c2)) (w.heap.size+1) (.int .i64 s3) (.bool b3) (.slice a3 n3 c3) (.int .i64 s4) (.bool b4) (.slice a4 n4 c4)).drew);generalize dO (dO W3 w.heap.size (.int .i64 s1) (.bool b1) (.slice a1 n1 c1) (.int .i64 s2) (.bool b2) (.slice a2 n2 c2)) (w.heap.size+1) (.int .i64 s3) (.bool b3) (.slice a3 n3 c3) (.int .i64 s4) (.bool b4) (.slice a4 n4 c4)=W5 at *;have f3:W5.drew.heap[w.heap.size+1]? =_:=e3;have f4:W5.drew.heap[w.heap.size]? =_:=e4;have g3:RV W5.drew _ _:=v3.far (aW (am _ _) 1);have g4:RV W5.drew _ _:=v4.far (aW (am _ _) 1);have gb:Below w.heap.size w W5.drew:=aW bl 1;clear e1 e2 e3 e4 v3 v4 bl;generalize W5.drew=W6 at *;exact j7 results88 rfl rfl rfl rfl f4 f3 g3 g4 gb
theorem zj {q:Rat} (s t:ByteArray) (w:World) (h:Env w) (hp:eD s (none:Option Rat)) (hp':eD t (some q)):Calls prog 88 #[.string s,.string t] w (fF (none:Option Rat) (some q) w):=by
 have HB0:=hid (bE w (.cells #[.int .i64 0,.bool false,.slice none 0 0,.int .i64 0,.bool false,.slice none 0 0] 75) (.cells #[.int .i64 0,.bool false,.slice none 0 0,.int .i64 0,.bool false,.slice none 0 0] 75));have HE:=hid h;clear h
 go_enter func88,ntmps88
 go_wp2_with fail
 refine (hp _ (HE.out.far HB0.out)).mono ?_;rintro e w1 ⟨v1,rfl,hv1,hb1⟩;have HV1:=hid hv1;obtain ⟨s1,b1,a1,n1,c1,s2,b2,a2,n2,c2,rfl,-,-⟩:=bG hv1;have HR1:=hid ((hb1.block w.heap.size (by simp;omega)).trans ((Below.heap_alloc _ _ _ (by simp)).trans (aq w _)));have HR2:=hid ((hb1.block (w.heap.size+1) (by simp)).trans (bM w _ _));have HB1:=hid (HB0.out.trans (hb1.mono (by simp;omega)));clear hb1 hv1 hp HB0;have HBA:=hid (HB1.out.alloc HB1.out.size (.cells #[.int .i64 s1,.bool b1,.slice a1 n1 c1,.int .i64 s2,.bool b2,.slice a2 n2 c2] 75))
 go_wp2_with fail
 refine (hp' _ (HE.out.far HBA.out)).mono ?_;rintro e w2 ⟨v2,rfl,hv2,hb2⟩;have HV2:=hid hv2;obtain ⟨s3,b3,a3,n3,c3,s4,b4,a4,n4,c4,rfl,-,-⟩:=bG hv2;have HA2:=hid ((hb2.block w1.heap.size (by simp)).trans (aq w1 _));have HV12:=hid ((HV1.out.far ((am _ _).alloc (aj _) _)).far hb2);have hl1:=ar HR1.out;have hl2:=ar HR2.out;have HR12:=hid ((hb2.block w.heap.size (by simp;omega)).trans ((Below.heap_alloc _ _ _ hl1).trans HR1.out));have HR22:=hid ((hb2.block (w.heap.size+1) (by simp;omega)).trans ((Below.heap_alloc _ _ _ hl2).trans HR2.out));have HB2:=hid (HBA.out.trans (hb2.mono HBA.out.size));have hlw:=hb2.size
 simp at hlw
 clear hb2 hv2 hp' HBA HR1 HR2 HV1 HB1
 have K0:Dozen (w2.alloc (.cells #[.int .i64 s3,.bool b3,.slice a3 n3 c3,.int .i64 s4,.bool b4,.slice a4 n4 c4] 75)) w1.heap.size w2.heap.size (.int .i64 s1) (.bool b1) (.slice a1 n1 c1) (.int .i64 s2) (.bool b2) (.slice a2 n2 c2) (.int .i64 s3) (.bool b3) (.slice a3 n3 c3) (.int .i64 s4) (.bool b4) (.slice a4 n4 c4):=
  Dozen.of ((Below.heap_alloc _ _ _ (ar HA2.out)).trans HA2.out) (aq w2 _)
 have HX:Hid ((w2.alloc (.cells #[.int .i64 s3,.bool b3,.slice a3 n3 c3,.int .i64 s4,.bool b4,.slice a4 n4 c4] 75)).heap[w.heap.size]? =some (.cells #[.int .i64 0,.bool false,.slice none 0 0,.int .i64 0,.bool false,.slice none 0 0] 75 (0,0))):=hid ((Below.heap_alloc _ _ _ (ar HR12.out)).trans HR12.out);have HY:Hid ((w2.alloc (.cells #[.int .i64 s3,.bool b3,.slice a3 n3 c3,.int .i64 s4,.bool b4,.slice a4 n4 c4] 75)).heap[w.heap.size+1]? =some (.cells #[.int .i64 0,.bool false,.slice none 0 0,.int .i64 0,.bool false,.slice none 0 0] 75 (0,0))):=hid ((Below.heap_alloc _ _ _ (ar HR22.out)).trans HR22.out);have HV3:=hid (HV12.out.far ((am w2.heap.size w2).alloc (aj _) (.cells #[.int .i64 s3,.bool b3,.slice a3 n3 c3,.int .i64 s4,.bool b4,.slice a4 n4 c4] 75)));have HV4:=hid (HV2.out.far ((am w2.heap.size w2).alloc (aj _) (.cells #[.int .i64 s3,.bool b3,.slice a3 n3 c3,.int .i64 s4,.bool b4,.slice a4 n4 c4] 75)));have HB3:=hid (HB2.out.alloc HB2.out.size (.cells #[.int .i64 s3,.bool b3,.slice a3 n3 c3,.int .i64 s4,.bool b4,.slice a4 n4 c4] 75));have KD:=hid K0;obtain ⟨k0,k1,k2,k3,k4,k5,l0,l1,l2,l3,l4,l5⟩:=K0;clear HR12 HR22 HA2 HV12 HV2 HB2 KD
 go_wp2_with fail
 generalize hW3:w2.alloc (.cells #[.int .i64 s3,.bool b3,.slice a3 n3 c3,.int .i64 s4,.bool b4,.slice a4 n4 c4] 75)=W3 at *;clear hW3;obtain ⟨⟨r0,r1,r2,r3,r4,r5⟩,fr⟩:=ResR.cells HX.out;obtain ⟨⟨q0,q1,q2,q3,q4,q5⟩,fq⟩:=ResR.cells HY.out;have fr0:=fr 0;have fr1:=fr 1;have fr2:=fr 2;have fr3:=fr 3;have fr4:=fr 4;have fr5:=fr 5;have fq0:=fq 0;have fq1:=fq 1;have fq2:=fq 2;have fq3:=fq 3;have fq4:=fq 4;have fq5:=fq 5;have ne1:w1.heap.size≠w.heap.size:=by omega
 have ne2:w2.heap.size≠w.heap.size:=by omega
 have ne3:w1.heap.size≠w.heap.size+1:=by omega
 have ne4:w2.heap.size≠w.heap.size+1:=by omega
 clear fr fq
 go_region
 go_wp2
 have e1:=dy HX.out (.int .i64 s1) (.bool b1) (.slice a1 n1 c1) (.int .i64 s2) (.bool b2) (.slice a2 n2 c2);have e2:=(bc (w:=W3) (R:=w.heap.size) (g:=w.heap.size+1) (by omega) (.int .i64 s1) (.bool b1) (.slice a1 n1 c1) (.int .i64 s2) (.bool b2) (.slice a2 n2 c2)).trans HY.out;have e3:=dy e2 (.int .i64 s3) (.bool b3) (.slice a3 n3 c3) (.int .i64 s4) (.bool b4) (.slice a4 n4 c4);have e4:=(bc (w:=dO W3 w.heap.size (.int .i64 s1) (.bool b1) (.slice a1 n1 c1) (.int .i64 s2) (.bool b2) (.slice a2 n2 c2)) (R:=w.heap.size+1) (g:=w.heap.size) (by omega) (.int .i64 s3) (.bool b3) (.slice a3 n3 c3) (.int .i64 s4) (.bool b4) (.slice a4 n4 c4)).trans e1;have v3:=(HV3.out.heap_same HX.out (by decide) (fun k hk=>bc hk (.int .i64 s1) (.bool b1) (.slice a1 n1 c1) (.int .i64 s2) (.bool b2) (.slice a2 n2 c2))).heap_same e2 (by decide) (fun k hk=>bc hk (.int .i64 s3) (.bool b3) (.slice a3 n3 c3) (.int .i64 s4) (.bool b4) (.slice a4 n4 c4));have v4:=(HV4.out.heap_same HX.out (by decide) (fun k hk=>bc hk (.int .i64 s1) (.bool b1) (.slice a1 n1 c1) (.int .i64 s2) (.bool b2) (.slice a2 n2 c2))).heap_same e2 (by decide) (fun k hk=>bc hk (.int .i64 s3) (.bool b3) (.slice a3 n3 c3) (.int .i64 s4) (.bool b4) (.slice a4 n4 c4));have bl:=cX (cX HB3.out (aj _) (.int .i64 s1) (.bool b1) (.slice a1 n1 c1) (.int .i64 s2) (.bool b2) (.slice a2 n2 c2)) (Nat.le_succ _) (.int .i64 s3) (.bool b3) (.slice a3 n3 c3) (.int .i64 s4) (.bool b4) (.slice a4 n4 c4)
 show bodyPost _ _ _ _ _ ((dO (dO W3 w.heap.size (.int .i64 s1) (.bool b1) (.slice a1 n1 c1) (.int .i64 s2) (.bool b2) (.slice a2 n2 c2)) (w.heap.size+1) (.int .i64 s3) (.bool b3) (.slice a3 n3 c3) (.int .i64 s4) (.bool b4) (.slice a4 n4 c4)).drew);generalize dO (dO W3 w.heap.size (.int .i64 s1) (.bool b1) (.slice a1 n1 c1) (.int .i64 s2) (.bool b2) (.slice a2 n2 c2)) (w.heap.size+1) (.int .i64 s3) (.bool b3) (.slice a3 n3 c3) (.int .i64 s4) (.bool b4) (.slice a4 n4 c4)=W5 at *;have f3:W5.drew.heap[w.heap.size+1]? =_:=e3;have f4:W5.drew.heap[w.heap.size]? =_:=e4;have g3:RV W5.drew _ _:=v3.far (aW (am _ _) 1);have g4:RV W5.drew _ _:=v4.far (aW (am _ _) 1);have gb:Below w.heap.size w W5.drew:=aW bl 1;clear e1 e2 e3 e4 v3 v4 bl;generalize W5.drew=W6 at *;exact j7 results88 rfl rfl rfl rfl f4 f3 g3 g4 gb
theorem zk {p:Rat} (s t:ByteArray) (w:World) (h:Env w) (hp:eD s (some p)) (hp':eD t (none:Option Rat)):Calls prog 88 #[.string s,.string t] w (fF (some p) (none:Option Rat) w):=by
 have HB0:=hid (bE w (.cells #[.int .i64 0,.bool false,.slice none 0 0,.int .i64 0,.bool false,.slice none 0 0] 75) (.cells #[.int .i64 0,.bool false,.slice none 0 0,.int .i64 0,.bool false,.slice none 0 0] 75));have HE:=hid h;clear h
 go_enter func88,ntmps88
 go_wp2_with fail
 refine (hp _ (HE.out.far HB0.out)).mono ?_;rintro e w1 ⟨v1,rfl,hv1,hb1⟩;have HV1:=hid hv1;obtain ⟨s1,b1,a1,n1,c1,s2,b2,a2,n2,c2,rfl,-,-⟩:=bG hv1;have HR1:=hid ((hb1.block w.heap.size (by simp;omega)).trans ((Below.heap_alloc _ _ _ (by simp)).trans (aq w _)));have HR2:=hid ((hb1.block (w.heap.size+1) (by simp)).trans (bM w _ _));have HB1:=hid (HB0.out.trans (hb1.mono (by simp;omega)));clear hb1 hv1 hp HB0;have HBA:=hid (HB1.out.alloc HB1.out.size (.cells #[.int .i64 s1,.bool b1,.slice a1 n1 c1,.int .i64 s2,.bool b2,.slice a2 n2 c2] 75))
 go_wp2_with fail
 refine (hp' _ (HE.out.far HBA.out)).mono ?_;rintro e w2 ⟨v2,rfl,hv2,hb2⟩;have HV2:=hid hv2;obtain ⟨s3,b3,a3,n3,c3,s4,b4,a4,n4,c4,rfl,-,-⟩:=bG hv2;have HA2:=hid ((hb2.block w1.heap.size (by simp)).trans (aq w1 _));have HV12:=hid ((HV1.out.far ((am _ _).alloc (aj _) _)).far hb2);have hl1:=ar HR1.out;have hl2:=ar HR2.out;have HR12:=hid ((hb2.block w.heap.size (by simp;omega)).trans ((Below.heap_alloc _ _ _ hl1).trans HR1.out));have HR22:=hid ((hb2.block (w.heap.size+1) (by simp;omega)).trans ((Below.heap_alloc _ _ _ hl2).trans HR2.out));have HB2:=hid (HBA.out.trans (hb2.mono HBA.out.size));have hlw:=hb2.size
 simp at hlw
 clear hb2 hv2 hp' HBA HR1 HR2 HV1 HB1
 have K0:Dozen (w2.alloc (.cells #[.int .i64 s3,.bool b3,.slice a3 n3 c3,.int .i64 s4,.bool b4,.slice a4 n4 c4] 75)) w1.heap.size w2.heap.size (.int .i64 s1) (.bool b1) (.slice a1 n1 c1) (.int .i64 s2) (.bool b2) (.slice a2 n2 c2) (.int .i64 s3) (.bool b3) (.slice a3 n3 c3) (.int .i64 s4) (.bool b4) (.slice a4 n4 c4):=
  Dozen.of ((Below.heap_alloc _ _ _ (ar HA2.out)).trans HA2.out) (aq w2 _)
 have HX:Hid ((w2.alloc (.cells #[.int .i64 s3,.bool b3,.slice a3 n3 c3,.int .i64 s4,.bool b4,.slice a4 n4 c4] 75)).heap[w.heap.size]? =some (.cells #[.int .i64 0,.bool false,.slice none 0 0,.int .i64 0,.bool false,.slice none 0 0] 75 (0,0))):=hid ((Below.heap_alloc _ _ _ (ar HR12.out)).trans HR12.out);have HY:Hid ((w2.alloc (.cells #[.int .i64 s3,.bool b3,.slice a3 n3 c3,.int .i64 s4,.bool b4,.slice a4 n4 c4] 75)).heap[w.heap.size+1]? =some (.cells #[.int .i64 0,.bool false,.slice none 0 0,.int .i64 0,.bool false,.slice none 0 0] 75 (0,0))):=hid ((Below.heap_alloc _ _ _ (ar HR22.out)).trans HR22.out);have HV3:=hid (HV12.out.far ((am w2.heap.size w2).alloc (aj _) (.cells #[.int .i64 s3,.bool b3,.slice a3 n3 c3,.int .i64 s4,.bool b4,.slice a4 n4 c4] 75)));have HV4:=hid (HV2.out.far ((am w2.heap.size w2).alloc (aj _) (.cells #[.int .i64 s3,.bool b3,.slice a3 n3 c3,.int .i64 s4,.bool b4,.slice a4 n4 c4] 75)));have HB3:=hid (HB2.out.alloc HB2.out.size (.cells #[.int .i64 s3,.bool b3,.slice a3 n3 c3,.int .i64 s4,.bool b4,.slice a4 n4 c4] 75));have KD:=hid K0;obtain ⟨k0,k1,k2,k3,k4,k5,l0,l1,l2,l3,l4,l5⟩:=K0;clear HR12 HR22 HA2 HV12 HV2 HB2 KD
 go_wp2_with fail
 generalize hW3:w2.alloc (.cells #[.int .i64 s3,.bool b3,.slice a3 n3 c3,.int .i64 s4,.bool b4,.slice a4 n4 c4] 75)=W3 at *;clear hW3;obtain ⟨⟨r0,r1,r2,r3,r4,r5⟩,fr⟩:=ResR.cells HX.out;obtain ⟨⟨q0,q1,q2,q3,q4,q5⟩,fq⟩:=ResR.cells HY.out;have fr0:=fr 0;have fr1:=fr 1;have fr2:=fr 2;have fr3:=fr 3;have fr4:=fr 4;have fr5:=fr 5;have fq0:=fq 0;have fq1:=fq 1;have fq2:=fq 2;have fq3:=fq 3;have fq4:=fq 4;have fq5:=fq 5;have ne1:w1.heap.size≠w.heap.size:=by omega
 have ne2:w2.heap.size≠w.heap.size:=by omega
 have ne3:w1.heap.size≠w.heap.size+1:=by omega
 have ne4:w2.heap.size≠w.heap.size+1:=by omega
 clear fr fq
 go_region
 go_wp2
 have e1:=dy HX.out (.int .i64 s1) (.bool b1) (.slice a1 n1 c1) (.int .i64 s2) (.bool b2) (.slice a2 n2 c2);have e2:=(bc (w:=W3) (R:=w.heap.size) (g:=w.heap.size+1) (by omega) (.int .i64 s1) (.bool b1) (.slice a1 n1 c1) (.int .i64 s2) (.bool b2) (.slice a2 n2 c2)).trans HY.out;have e3:=dy e2 (.int .i64 s3) (.bool b3) (.slice a3 n3 c3) (.int .i64 s4) (.bool b4) (.slice a4 n4 c4);have e4:=(bc (w:=dO W3 w.heap.size (.int .i64 s1) (.bool b1) (.slice a1 n1 c1) (.int .i64 s2) (.bool b2) (.slice a2 n2 c2)) (R:=w.heap.size+1) (g:=w.heap.size) (by omega) (.int .i64 s3) (.bool b3) (.slice a3 n3 c3) (.int .i64 s4) (.bool b4) (.slice a4 n4 c4)).trans e1;have v3:=(HV3.out.heap_same HX.out (by decide) (fun k hk=>bc hk (.int .i64 s1) (.bool b1) (.slice a1 n1 c1) (.int .i64 s2) (.bool b2) (.slice a2 n2 c2))).heap_same e2 (by decide) (fun k hk=>bc hk (.int .i64 s3) (.bool b3) (.slice a3 n3 c3) (.int .i64 s4) (.bool b4) (.slice a4 n4 c4));have v4:=(HV4.out.heap_same HX.out (by decide) (fun k hk=>bc hk (.int .i64 s1) (.bool b1) (.slice a1 n1 c1) (.int .i64 s2) (.bool b2) (.slice a2 n2 c2))).heap_same e2 (by decide) (fun k hk=>bc hk (.int .i64 s3) (.bool b3) (.slice a3 n3 c3) (.int .i64 s4) (.bool b4) (.slice a4 n4 c4));have bl:=cX (cX HB3.out (aj _) (.int .i64 s1) (.bool b1) (.slice a1 n1 c1) (.int .i64 s2) (.bool b2) (.slice a2 n2 c2)) (Nat.le_succ _) (.int .i64 s3) (.bool b3) (.slice a3 n3 c3) (.int .i64 s4) (.bool b4) (.slice a4 n4 c4)
 show bodyPost _ _ _ _ _ ((dO (dO W3 w.heap.size (.int .i64 s1) (.bool b1) (.slice a1 n1 c1) (.int .i64 s2) (.bool b2) (.slice a2 n2 c2)) (w.heap.size+1) (.int .i64 s3) (.bool b3) (.slice a3 n3 c3) (.int .i64 s4) (.bool b4) (.slice a4 n4 c4)).drew);generalize dO (dO W3 w.heap.size (.int .i64 s1) (.bool b1) (.slice a1 n1 c1) (.int .i64 s2) (.bool b2) (.slice a2 n2 c2)) (w.heap.size+1) (.int .i64 s3) (.bool b3) (.slice a3 n3 c3) (.int .i64 s4) (.bool b4) (.slice a4 n4 c4)=W5 at *;have f3:W5.drew.heap[w.heap.size+1]? =_:=e3;have f4:W5.drew.heap[w.heap.size]? =_:=e4;have g3:RV W5.drew _ _:=v3.far (aW (am _ _) 1);have g4:RV W5.drew _ _:=v4.far (aW (am _ _) 1);have gb:Below w.heap.size w W5.drew:=aW bl 1;clear e1 e2 e3 e4 v3 v4 bl;generalize W5.drew=W6 at *;exact j7 results88 rfl rfl rfl rfl f4 f3 g3 g4 gb
theorem zl {p q:Rat} (s t:ByteArray) (w:World) (h:Env w) (hp:eD s (some p)) (hp':eD t (some q)):Calls prog 88 #[.string s,.string t] w (fF (some p) (some q) w):=by
 have HB0:=hid (bE w (.cells #[.int .i64 0,.bool false,.slice none 0 0,.int .i64 0,.bool false,.slice none 0 0] 75) (.cells #[.int .i64 0,.bool false,.slice none 0 0,.int .i64 0,.bool false,.slice none 0 0] 75));have HE:=hid h;clear h
 go_enter func88,ntmps88
 go_wp2_with fail
 refine (hp _ (HE.out.far HB0.out)).mono ?_;rintro e w1 ⟨v1,rfl,hv1,hb1⟩;have HV1:=hid hv1;obtain ⟨s1,b1,a1,n1,c1,s2,b2,a2,n2,c2,rfl,-,-⟩:=bG hv1;have HR1:=hid ((hb1.block w.heap.size (by simp;omega)).trans ((Below.heap_alloc _ _ _ (by simp)).trans (aq w _)));have HR2:=hid ((hb1.block (w.heap.size+1) (by simp)).trans (bM w _ _));have HB1:=hid (HB0.out.trans (hb1.mono (by simp;omega)));clear hb1 hv1 hp HB0;have HBA:=hid (HB1.out.alloc HB1.out.size (.cells #[.int .i64 s1,.bool b1,.slice a1 n1 c1,.int .i64 s2,.bool b2,.slice a2 n2 c2] 75))
 go_wp2_with fail
 refine (hp' _ (HE.out.far HBA.out)).mono ?_;rintro e w2 ⟨v2,rfl,hv2,hb2⟩;have HV2:=hid hv2;obtain ⟨s3,b3,a3,n3,c3,s4,b4,a4,n4,c4,rfl,-,-⟩:=bG hv2;have HA2:=hid ((hb2.block w1.heap.size (by simp)).trans (aq w1 _));have HV12:=hid ((HV1.out.far ((am _ _).alloc (aj _) _)).far hb2);have hl1:=ar HR1.out;have hl2:=ar HR2.out;have HR12:=hid ((hb2.block w.heap.size (by simp;omega)).trans ((Below.heap_alloc _ _ _ hl1).trans HR1.out));have HR22:=hid ((hb2.block (w.heap.size+1) (by simp;omega)).trans ((Below.heap_alloc _ _ _ hl2).trans HR2.out));have HB2:=hid (HBA.out.trans (hb2.mono HBA.out.size));have hlw:=hb2.size
 simp at hlw
 clear hb2 hv2 hp' HBA HR1 HR2 HV1 HB1
 have K0:Dozen (w2.alloc (.cells #[.int .i64 s3,.bool b3,.slice a3 n3 c3,.int .i64 s4,.bool b4,.slice a4 n4 c4] 75)) w1.heap.size w2.heap.size (.int .i64 s1) (.bool b1) (.slice a1 n1 c1) (.int .i64 s2) (.bool b2) (.slice a2 n2 c2) (.int .i64 s3) (.bool b3) (.slice a3 n3 c3) (.int .i64 s4) (.bool b4) (.slice a4 n4 c4):=
  Dozen.of ((Below.heap_alloc _ _ _ (ar HA2.out)).trans HA2.out) (aq w2 _)
 have HX:Hid ((w2.alloc (.cells #[.int .i64 s3,.bool b3,.slice a3 n3 c3,.int .i64 s4,.bool b4,.slice a4 n4 c4] 75)).heap[w.heap.size]? =some (.cells #[.int .i64 0,.bool false,.slice none 0 0,.int .i64 0,.bool false,.slice none 0 0] 75 (0,0))):=hid ((Below.heap_alloc _ _ _ (ar HR12.out)).trans HR12.out);have HY:Hid ((w2.alloc (.cells #[.int .i64 s3,.bool b3,.slice a3 n3 c3,.int .i64 s4,.bool b4,.slice a4 n4 c4] 75)).heap[w.heap.size+1]? =some (.cells #[.int .i64 0,.bool false,.slice none 0 0,.int .i64 0,.bool false,.slice none 0 0] 75 (0,0))):=hid ((Below.heap_alloc _ _ _ (ar HR22.out)).trans HR22.out);have HV3:=hid (HV12.out.far ((am w2.heap.size w2).alloc (aj _) (.cells #[.int .i64 s3,.bool b3,.slice a3 n3 c3,.int .i64 s4,.bool b4,.slice a4 n4 c4] 75)));have HV4:=hid (HV2.out.far ((am w2.heap.size w2).alloc (aj _) (.cells #[.int .i64 s3,.bool b3,.slice a3 n3 c3,.int .i64 s4,.bool b4,.slice a4 n4 c4] 75)));have HB3:=hid (HB2.out.alloc HB2.out.size (.cells #[.int .i64 s3,.bool b3,.slice a3 n3 c3,.int .i64 s4,.bool b4,.slice a4 n4 c4] 75));have KD:=hid K0;obtain ⟨k0,k1,k2,k3,k4,k5,l0,l1,l2,l3,l4,l5⟩:=K0;clear HR12 HR22 HA2 HV12 HV2 HB2 KD
 go_wp2_with fail
 generalize hW3:w2.alloc (.cells #[.int .i64 s3,.bool b3,.slice a3 n3 c3,.int .i64 s4,.bool b4,.slice a4 n4 c4] 75)=W3 at *;clear hW3;obtain ⟨⟨r0,r1,r2,r3,r4,r5⟩,fr⟩:=ResR.cells HX.out;obtain ⟨⟨q0,q1,q2,q3,q4,q5⟩,fq⟩:=ResR.cells HY.out;have fr0:=fr 0;have fr1:=fr 1;have fr2:=fr 2;have fr3:=fr 3;have fr4:=fr 4;have fr5:=fr 5;have fq0:=fq 0;have fq1:=fq 1;have fq2:=fq 2;have fq3:=fq 3;have fq4:=fq 4;have fq5:=fq 5;have ne1:w1.heap.size≠w.heap.size:=by omega
 have ne2:w2.heap.size≠w.heap.size:=by omega
 have ne3:w1.heap.size≠w.heap.size+1:=by omega
 have ne4:w2.heap.size≠w.heap.size+1:=by omega
 clear fr fq
 go_region
 go_wp2
 have e1:=dy HX.out (.int .i64 s1) (.bool b1) (.slice a1 n1 c1) (.int .i64 s2) (.bool b2) (.slice a2 n2 c2);have e2:=(bc (w:=W3) (R:=w.heap.size) (g:=w.heap.size+1) (by omega) (.int .i64 s1) (.bool b1) (.slice a1 n1 c1) (.int .i64 s2) (.bool b2) (.slice a2 n2 c2)).trans HY.out;have e3:=dy e2 (.int .i64 s3) (.bool b3) (.slice a3 n3 c3) (.int .i64 s4) (.bool b4) (.slice a4 n4 c4);have e4:=(bc (w:=dO W3 w.heap.size (.int .i64 s1) (.bool b1) (.slice a1 n1 c1) (.int .i64 s2) (.bool b2) (.slice a2 n2 c2)) (R:=w.heap.size+1) (g:=w.heap.size) (by omega) (.int .i64 s3) (.bool b3) (.slice a3 n3 c3) (.int .i64 s4) (.bool b4) (.slice a4 n4 c4)).trans e1;have v3:=(HV3.out.heap_same HX.out (by decide) (fun k hk=>bc hk (.int .i64 s1) (.bool b1) (.slice a1 n1 c1) (.int .i64 s2) (.bool b2) (.slice a2 n2 c2))).heap_same e2 (by decide) (fun k hk=>bc hk (.int .i64 s3) (.bool b3) (.slice a3 n3 c3) (.int .i64 s4) (.bool b4) (.slice a4 n4 c4));have v4:=(HV4.out.heap_same HX.out (by decide) (fun k hk=>bc hk (.int .i64 s1) (.bool b1) (.slice a1 n1 c1) (.int .i64 s2) (.bool b2) (.slice a2 n2 c2))).heap_same e2 (by decide) (fun k hk=>bc hk (.int .i64 s3) (.bool b3) (.slice a3 n3 c3) (.int .i64 s4) (.bool b4) (.slice a4 n4 c4));have bl:=cX (cX HB3.out (aj _) (.int .i64 s1) (.bool b1) (.slice a1 n1 c1) (.int .i64 s2) (.bool b2) (.slice a2 n2 c2)) (Nat.le_succ _) (.int .i64 s3) (.bool b3) (.slice a3 n3 c3) (.int .i64 s4) (.bool b4) (.slice a4 n4 c4)
 show bodyPost _ _ _ _ _ ((dO (dO W3 w.heap.size (.int .i64 s1) (.bool b1) (.slice a1 n1 c1) (.int .i64 s2) (.bool b2) (.slice a2 n2 c2)) (w.heap.size+1) (.int .i64 s3) (.bool b3) (.slice a3 n3 c3) (.int .i64 s4) (.bool b4) (.slice a4 n4 c4)).drew);generalize dO (dO W3 w.heap.size (.int .i64 s1) (.bool b1) (.slice a1 n1 c1) (.int .i64 s2) (.bool b2) (.slice a2 n2 c2)) (w.heap.size+1) (.int .i64 s3) (.bool b3) (.slice a3 n3 c3) (.int .i64 s4) (.bool b4) (.slice a4 n4 c4)=W5 at *;have f3:W5.drew.heap[w.heap.size+1]? =_:=e3;have f4:W5.drew.heap[w.heap.size]? =_:=e4;have g3:RV W5.drew _ _:=v3.far (aW (am _ _) 1);have g4:RV W5.drew _ _:=v4.far (aW (am _ _) 1);have gb:Below w.heap.size w W5.drew:=aW bl 1;clear e1 e2 e3 e4 v3 v4 bl;generalize W5.drew=W6 at *;exact j7 results88 rfl rfl rfl rfl f4 f3 g3 g4 gb
theorem xQ (s t:ByteArray) (w:World) (hs:s.size≤1000000) (ht:t.size≤1000000) (h:Env w) (hg:mD s.data.toList) (hg':mD t.data.toList):Calls prog 88 #[.string s,.string t] w (fF (bp s.data.toList) (bp t.data.toList) w):=by
 have hp:eD s (bp s.data.toList):=fun W hW=>fh s W hs hW hg
 have hp':eD t (bp t.data.toList):=fun W hW=>fh t W ht hW hg'
 generalize bp s.data.toList=oa at *;generalize bp t.data.toList=ob at *;cases oa with
 | none=>cases ob with
   | none=>exact zi s t w h hp hp'
   | some q=>exact zj s t w h hp hp'
 | some p=>cases ob with
   | none=>exact zk s t w h hp hp'
   | some q=>exact zl s t w h hp hp'
theorem lF (z:Int) (w:World) (h:Env w) (hz:aV z):Calls prog 145 #[cV z] w fun e w'=>e=.returned (.string ⟨(bS z).toArray⟩)∧Below w.heap.size w w':=by
 have kq0:=bJ;have hbl:∀o:Obj,Below w.heap.size w (w.alloc o):=fun o=>(am _ _).alloc (aj _) _
 have hf:=fun o=>Tryz.strconv_FormatInt_10 z (by have:=hz.1;omega) (by have:=hz.2;omega) (w.alloc o) (h.far (hbl o)).tab
 rw[uJ] at hf;unfold cV;clear h hz
 go_enter func145,ntmps145
 go_wp2_with fail
 refine (hf _).mono ?_;rintro e w1 ⟨rfl,k,os,hw⟩;have HB:Hid (Below w.heap.size (w.alloc (.cells #[.int .i64 z,.bool false,.slice none 0 0] 73)) w1):=hid (by rw[hw];exact Lib.below_grow w.heap.size _ (by simp) k os);clear hw
 go_wp2
 go_ret
 exact ⟨rfl,(hbl _).trans HB.out⟩
theorem zm (q:Rat):(if q.den=1 then (1:Int) else fE q)=q.den:=by
 unfold fE
 by_cases h:q.den=1
 · rw[aF h,h];rfl
 · rw[aB h,aB h]
theorem jE (v:Value) (q:Rat) (w:World) (h:RV w v q):Calls prog 130 #[v] w (cD q.den w):=by
 obtain ⟨s1,b1,a1,n1,c1,s2,b2,a2,n2,c2,rfl,h1,h2⟩:=bG h;have HB0:=hid (bE w (.cells #[.int .i64 s1,.bool b1,.slice a1 n1 c1,.int .i64 s2,.bool b2,.slice a2 n2 c2] 75) (.cells #[.int .i64 0,.bool false,.slice none 0 0] 73));have hz:=dV _ _ _ (h2.far HB0.out);rw[ox] at hz;have H2:=hid h2;have HG:=hid (zm q);clear h h1 h2
 go_enter func130,ntmps130
 go_wp2_with fail
 refine hz.mono ?_;rintro e w1 ⟨rfl,hb1⟩;have HR1:=hid ((hb1.block w.heap.size (by simp;omega)).trans ((Below.heap_alloc _ _ _ (by simp)).trans (aq w _)));have HR2:=hid ((hb1.block (w.heap.size+1) (by simp)).trans (bM w _ _));have HB1:=hid (HB0.out.trans (hb1.mono (by simp;omega)));clear hb1 hz HB0
 by_cases hd:q.den=1
 · have hdb:decide (q.den=1)=true:=by simpa using hd
   have hf:=jp 1 w1 (by omega) (by omega);have HE:Hid ((q.den:Int)=1):=hid (by rw[hd];rfl);clear hd HG
   go_wp2_with fail
   refine hf.mono ?_;rintro e w2 ⟨v2,rfl,hv2,hb2⟩;have HV2:=hid hv2;obtain ⟨s3,b3,a3,n3,c3,rfl⟩:=aY hv2;have HS2:=hid ((hb2.block _ (ar HR2.out)).trans HR2.out);have HB2:=hid (HB1.out.trans (hb2.mono HB1.out.size));obtain ⟨r0,r1,r2,r3,r4,r5⟩:=Res.cells HS2.out;clear hv2 hb2 hf
   go_wp2
   rw[HE.out];exact dH results130 rfl rfl HS2.out HV2.out HB2.out (by omega)
 · have hdb:decide (q.den=1)=false:=by simpa using hd
   have HE:Hid ((q.den:Int)=fE q):=hid (by rw[←HG.out,aB hd]);obtain ⟨y0,y1,y2,y3,y4,y5,-⟩:=Dozen.of HR1.out HR1.out;obtain ⟨r0,r1,r2,r3,r4,r5⟩:=Res.cells HR2.out;clear hd HG
   go_wp2
   rw[HE.out];exact dH results130 rfl rfl HR2.out (H2.out.far HB1.out) HB1.out (by omega)
def Ai (z:Int):Prop:=∀(v:Value) (w:World),Env w→IV w v z→Calls prog 145 #[v] w fun e w'=>e=.returned (.string ⟨(bS z).toArray⟩)∧Below w.heap.size w w'
theorem tt {q:Rat} (h:q.den=1):bB q=bS q.num:=by unfold bB;rw[aF h,List.append_nil]
theorem oy {q:Rat} (h:q.den≠1):bB q=bS q.num++47::bS q.den:=by
 unfold bB;rw[aB h,fC]
theorem Aj {a b:World} {g:Nat} {x0 x1 x2 x3 x4 x5:Value} (hb:Below a.heap.size a b) (hg:g<a.heap.size)
    (h:a.cell? ⟨g,0,none⟩=some x0∧a.cell? ⟨g,1,none⟩=some x1∧a.cell? ⟨g,2,none⟩=some x2∧a.cell? ⟨g,3,none⟩=some x3∧a.cell? ⟨g,4,none⟩=some x4∧a.cell? ⟨g,5,none⟩=some x5):
    b.cell? ⟨g,0,none⟩=some x0∧b.cell? ⟨g,1,none⟩=some x1∧b.cell? ⟨g,2,none⟩=some x2∧b.cell? ⟨g,3,none⟩=some x3∧b.cell? ⟨g,4,none⟩=some x4∧b.cell? ⟨g,5,none⟩=some x5:=by
 obtain ⟨k0,k1,k2,k3,k4,k5⟩:=h;have e:=hb.block g hg;refine ⟨?_,?_,?_,?_,?_,?_⟩ <;> simp only[World.cell?,e] at * <;> assumption
theorem nr (v:Value) (q:Rat) (w:World) (h:RV w v q) (hE:Env w) (hn:Ai q.num) (hd:q.den=1):Calls prog 97 #[v] w fun e w'=>e=.returned (.string ⟨(bB q).toArray⟩)∧Below w.heap.size w w':=by
 obtain ⟨s1,b1,a1,n1,c1,s2,b2,a2,n2,c2,rfl,h1,h2⟩:=bG h;have hi:=fun o=>eh (.agg #[.int .i64 s1,.bool b1,.slice a1 n1 c1,.int .i64 s2,.bool b2,.slice a2 n2 c2]) q (w.alloc o) (h.far ((am _ _).alloc (aj _) o))
 have HB0:=hid ((am w.heap.size w).alloc (aj _) (.cells #[.int .i64 s1,.bool b1,.slice a1 n1 c1,.int .i64 s2,.bool b2,.slice a2 n2 c2] 75));have H1:=hid h1;have H2:=hid h2;have HE:=hid hE;have HN:=hid hn;clear h hE hn h1 h2
 go_enter func97,ntmps97
 go_wp2_with fail
 refine (hi _).mono ?_;rintro e w1 ⟨rfl,hb1⟩;have HR1:=hid ((hb1.block w.heap.size (by simp)).trans (aq w (.cells #[.int .i64 s1,.bool b1,.slice a1 n1 c1,.int .i64 s2,.bool b2,.slice a2 n2 c2] 75)));have HB1:=hid (HB0.out.trans (hb1.mono (by simp)));obtain ⟨y0,y1,y2,y3,y4,y5,-⟩:=Dozen.of HR1.out HR1.out;clear hb1 hi HB0;have hdb:decide (q.den=1)=true:=by simpa using hd
 have HT:=hid (tt hd);clear hd H2;have hs:=HN.out (.agg #[.int .i64 s1,.bool b1,.slice a1 n1 c1]) w1 (HE.out.far HB1.out) (H1.out.far HB1.out)
 go_wp2_with fail
 refine hs.mono ?_;rintro e w2 ⟨rfl,hb2⟩;have HB2:=hid (HB1.out.trans (hb2.mono HB1.out.size));clear hb2 hs
 go_wp2
 go_ret
 exact ⟨by rw[HT.out];rfl,HB2.out⟩
def kR (n m:Nat) (acc:List UInt8):Prop:=(m≠0∨acc=[]→aU m++acc=aU n)∧(m=0→acc≠[]→acc=aU n)
theorem oz (n:Nat):kR n n []:=⟨fun _=>by simp,fun _ h=>absurd rfl h⟩
theorem j8 {n m:Nat} {acc:List UInt8} (h:kR n m acc) (hm:m≠0∨acc=[]):kR n (m / 10) (dg (m % 10)::acc):=by
 have h1:=h.1 hm;refine ⟨fun h2=>?_,fun h2 _=>?_⟩
 · have:m / 10≠0:=by rcases h2 with h2 | h2;exact h2;cases h2
   rw[←h1,fB (n:=m) (by omega)];simp
 · have h10:m<10:=by omega
   rw[←h1,cG h10,Nat.mod_eq_of_lt h10];rfl
theorem uN {n m:Nat} {acc:List UInt8} (h:kR n m acc) (hn:n≤9223372036854775808):acc.length≤19:=by
 have:=cQ (n:=n) (k:=19) (by omega) (by omega)
 by_cases hm:m≠0∨acc=[]
 · have:=congrArg List.length (h.1 hm);rw[aE] at this;omega
 · have:=h.2 (by omega) (by simp at hm;exact hm.2);rw[this];omega
theorem iE (w:World) (c:UInt8) (k:Int) (hk:k=c.toNat):Sem.run prog (convert 99 9 (Value.slice (some { block:=w.heap.size,off:=0 }) 1 1)) (w.alloc (.cells #[.int .u8 k] 5))=.ok (.string ⟨#[c]⟩) (w.alloc (.cells #[.int .u8 k] 5)):=by
 subst hk;refine run_convert_bytes_back (P:=prog) _ 99 9 5 ⟨w.heap.size,0,none⟩ 1 [c] underlying99 underlying5 underlying9 ?_;intro j hj
 simp at hj
 subst hj;exact (World.news_of_block (cs:=#[.int .u8 (c.toNat:Int)]) (t:=5) (fr:=(0,0)) (aq w _)) 0 _ (by simp)
theorem fG (c:UInt8) (acc:List UInt8):(⟨#[c]⟩:ByteArray)++⟨acc.toArray⟩=⟨(c::acc).toArray⟩:=by
 apply ByteArray.ext;rw[ByteArray.data_append];apply Array.toList_inj.1
 simp
theorem xR (b:Bool) (n:Nat) (h:b=true→0<n):bS (sgn b n)=if b then 45::aU n else aU n:=by
 cases b
 · exact fC n
 · exact mq n (h rfl)
theorem mE (n:Nat) (w:World) (hn:n≤9223372036854775807):
    Calls prog 40 #[.int .i64 ((n:Int))] w fun e w'=>e=.returned (.string ⟨(bS ((n:Int))).toArray⟩)∧Below w.heap.size w w':=by
 have HS:Hid (bS ((n:Int))=aU n):=hid (fC n)
 go_enter func40,ntmps40
 go_wp2
 generalize hb:w.heap.size=b at *;have HB:=hid hb;clear hb
 go_loopw [3,4] (fun sv v wr=>∃(m:Nat) (acc:List UInt8),m≤n∧v=.int .i64 ((m:Int))∧sv=.string ⟨acc.toArray⟩∧Below b w wr∧kR n m acc)
  (fun sv v _=>(intOf v).natAbs+(match sv with | .string t=>if t.size=0 then 1 else 0 | _=>0))
 case atStart=>exact ⟨n,[],aj _,rfl,rfl,am _ _,oz n⟩
 case round=>
  obtain ⟨m,acc,hm,rfl,rfl,hbel,hd⟩:=hrel;have hlen:=uN hd (by omega);have HW:=hid hbel;have HD:=hid hd;have hsz:=hbel.size;clear hbel hd;have HT1:Int.tmod ((m:Int)) 10=((m % 10:Nat):Int):=by rw[Int.tmod_eq_emod_of_nonneg (by omega)];rfl
  have HT2:Int.tdiv ((m:Int)) 10=((m / 10:Nat):Int):=by rw[Int.tdiv_eq_ediv_of_nonneg (by omega)];rfl
  have hd10:m % 10<10:=Nat.mod_lt _ (by omega)
  by_cases hm0:m=0
  · subst hm0
    by_cases ha:acc=[]
    · subst ha;have HN:=hid (j8 HD.out (.inr rfl));have hcv:=iE wr (dg 0) 48 (by decide)
      go_wp2
      refine ⟨⟨0,[dg 0],aM _,rfl,rfl,HW.out.alloc (by have:=HB.out;omega) _,?_⟩,?_⟩
      · exact HN.out
      · simp[intOf];decide
    · have HF:=hid (HD.out.2 rfl ha);have hne:acc.isEmpty=false:=by simpa using ha
      go_wp2
      go_ret
      exact ⟨bK (by rw[HS.out,HF.out]),by rw[HB.out];exact HW.out⟩
  · have hmb:(((m:Int)) !=0)=true:=by simp;omega
    have HN:=hid (j8 HD.out (.inl hm0));obtain ⟨r,hr⟩:∃r,m % 10=r:=⟨_,rfl⟩
    obtain ⟨q,hq⟩:∃q,m / 10=q:=⟨_,rfl⟩
    have hqm:q≤m:=by omega
    have hql:q<m:=by omega
    rw[hr] at HT1 hd10;rw[hq] at HT2;rw[hr,hq] at HN;have hcv:=iE wr (dg r) (48+(r:Int)) (by rw[cj hd10];omega);have hmr:(m:Int) % 10=(r:Int):=by omega
    have hmq:(m:Int) / 10=(q:Int):=by omega
    clear hr hq
    go_wp2
    refine ⟨⟨q,dg r::acc,by omega,by go_num,congrArg Value.string (fG _ _),HW.out.alloc (by have:=HB.out;omega) _,HN.out⟩,?_⟩;rw[fG]
    simp[intOf,ByteArray.size]
    omega
theorem mF (n:Nat) (w:World) (hn:n≤9223372036854775808) (hp:0<n):
    Calls prog 40 #[.int .i64 (-(n:Int))] w fun e w'=>e=.returned (.string ⟨(bS (-(n:Int))).toArray⟩)∧Below w.heap.size w w':=by
 have HS:Hid (bS (-(n:Int))=45::aU n):=hid (mq n hp);have hlt: -(n:Int)<0:=by omega
 go_enter func40,ntmps40
 go_wp2
 generalize hb:w.heap.size=b at *;have HB:=hid hb;clear hb
 go_loopw [3,4] (fun sv v wr=>∃(m:Nat) (acc:List UInt8),m≤n∧v=.int .i64 (-(m:Int))∧sv=.string ⟨acc.toArray⟩∧Below b w wr∧kR n m acc)
  (fun sv v _=>(intOf v).natAbs+(match sv with | .string t=>if t.size=0 then 1 else 0 | _=>0))
 case atStart=>exact ⟨n,[],aj _,rfl,rfl,am _ _,oz n⟩
 case round=>
  obtain ⟨m,acc,hm,rfl,rfl,hbel,hd⟩:=hrel;have hlen:=uN hd (by omega);have HW:=hid hbel;have HD:=hid hd;have hsz:=hbel.size;clear hbel hd;have HT1:Int.tmod (-(m:Int)) 10= -((m % 10:Nat):Int):=by rw[Int.neg_tmod,Int.tmod_eq_emod_of_nonneg (by omega)];rfl
  have HT2:Int.tdiv (-(m:Int)) 10= -((m / 10:Nat):Int):=by rw[Int.neg_tdiv,Int.tdiv_eq_ediv_of_nonneg (by omega)];rfl
  have hd10:m % 10<10:=Nat.mod_lt _ (by omega)
  by_cases hm0:m=0
  · subst hm0
    by_cases ha:acc=[]
    · subst ha;have HN:=hid (j8 HD.out (.inr rfl));have hcv:=iE wr (dg 0) 48 (by decide)
      exfalso
      have h1:=HD.out.1 (.inr rfl);rw[List.append_nil] at h1;have:=jT h1
      omega
    · have HF:=hid (HD.out.2 rfl ha);have hne:acc.isEmpty=false:=by simpa using ha
      go_wp2
      go_ret
      exact ⟨bK (by rw[HS.out,HF.out];exact fG 45 (aU n)),by rw[HB.out];exact HW.out⟩
  · have hmb:((-(m:Int)) !=0)=true:=by simp;omega
    have HN:=hid (j8 HD.out (.inl hm0));obtain ⟨r,hr⟩:∃r,m % 10=r:=⟨_,rfl⟩
    obtain ⟨q,hq⟩:∃q,m / 10=q:=⟨_,rfl⟩
    have hqm:q≤m:=by omega
    have hql:q<m:=by omega
    rw[hr] at HT1 hd10;rw[hq] at HT2;rw[hr,hq] at HN;have hcv:=iE wr (dg r) (48+(r:Int)) (by rw[cj hd10];omega);have hmr:(m:Int) % 10=(r:Int):=by omega
    have hmq:(m:Int) / 10=(q:Int):=by omega
    clear hr hq
    by_cases hr0:r=0
    · subst hr0;have hcv0:=iE wr (dg 0) 48 (by decide)
      go_wp2
      refine ⟨⟨q,dg 0::acc,by omega,rfl,congrArg Value.string (fG _ _),HW.out.alloc (by have:=HB.out;omega) _,HN.out⟩,?_⟩;rw[fG]
      simp[intOf,ByteArray.size]
      omega
    · have hrn: -(r:Int)<0:=by omega
      go_wp2
      refine ⟨⟨q,dg r::acc,by omega,rfl,congrArg Value.string (fG _ _),HW.out.alloc (by have:=HB.out;omega) _,HN.out⟩,?_⟩;rw[fG]
      simp[intOf,ByteArray.size]
      omega
theorem mG (z:Int) (w:World) (h1: -9223372036854775808≤z) (h2:z≤9223372036854775807):
    Calls prog 40 #[.int .i64 z] w fun e w'=>e=.returned (.string ⟨(bS z).toArray⟩)∧Below w.heap.size w w':=by
 by_cases hz:z<0
 · have:=mF z.natAbs w (by omega) (by omega);rw[show -(z.natAbs:Int)=z by omega] at this;exact this
 · have:=mE z.natAbs w (by omega);rw[show (z.natAbs:Int)=z by omega] at this;exact this
end Go.Proofs.YtpkfnnkbfphfbaaGreatDoor
namespace Nmx
structure DivI (a q:List Nat) (b i r:Nat):Prop where
 len:q.length=a.length
 ws:Ws q
 low:∀k,k<i→q.getD k 0=a.getD k 0
 r1:r<b
 val:wv (q.drop i)*b+r=wv (a.drop i)
theorem DivI.start (a:List Nat) (b:Nat) (ha:Ws a) (hb:0<b):DivI a a b a.length 0:=
 ⟨rfl,ha,fun _ _=>rfl,hb,by simp[dh]⟩
theorem DivI.step {a q:List Nat} {b i r:Nat} (h:DivI a q b (i+1) r) (ha:Ws a) (hi:i<a.length) (t:Nat) (ht:t=r*BB+a.getD i 0):DivI a (q.set i (t / b)) b i (t % b)∧t / b<BB:=by
 have h1:=ha.getD i;have h2:=h.r1;have hb0:0<b:=by omega
 have h3:t<b*BB:=by
  have:(r+1)*BB≤b*BB:=Nat.mul_le_mul_right _ h2;rw[Nat.add_mul,Nat.one_mul] at this
  omega
 have h4:t / b<BB:=(Nat.div_lt_iff_lt_mul hb0).2 (by rw[Nat.mul_comm];exact h3);refine ⟨⟨by rw[aQ];exact h.len,h.ws.set _ h4,fun k hk=>by rw[bZ _ _ _ _ (by omega)];exact h.low k (by omega),Nat.mod_lt _ hb0,?_⟩,h4⟩;have hq:i<q.length:=by rw[h.len];exact hi
 rw[cN _ i (by rw[aQ];exact hq),dr q i _ hq,List.drop_set_of_lt (by omega),cN a i hi];have h5:=Nat.mod_add_div t b;have h6:=h.val;have h7:BB*(wv (q.drop (i+1))*b+r)=BB*wv (a.drop (i+1)):=by rw[h6]
 rw[Nat.mul_add] at h7;rw[Nat.add_mul,Nat.mul_assoc,Nat.mul_comm (t / b) b,←h7];have:r*BB=BB*r:=Nat.mul_comm _ _
 omega
theorem DivI.done {a q:List Nat} {b r:Nat} (h:DivI a q b 0 r):wv q=wv a / b∧r=wv a % b:=by
 have h1:=h.val;rw[List.drop_zero,List.drop_zero] at h1;have h2:=h.r1;rw[←h1];have h0:0<b:=by omega
 refine ⟨?_,?_⟩
 · rw[Nat.mul_comm,Nat.mul_add_div h0,Nat.div_eq_of_lt h2,Nat.add_zero]
 · rw[Nat.mul_comm,Nat.mul_add_mod,Nat.mod_eq_of_lt h2]
structure ChR (N:Nat) (l c:List Nat):Prop where
 nl:em l
 lt:∀x∈c,x<1000000000
 val:dN c+1000000000 ^ c.length*wv l=N
 last:l=[]→c≠[]∧c.getLastD 0≠0
theorem ChR.start {l:List Nat} (h:em l) (h0:l≠[]):ChR (wv l) l []:=
 ⟨h,fun x hx=>absurd hx (by simp),by simp[dN],fun e=>absurd e h0⟩
theorem oA {l:List Nat} (h:em l) (h0:l≠[]):0<wv l:=by
 rcases Nat.eq_zero_or_pos (wv l) with h1 | h1
 · exact absurd (vA l h h1) h0
 · exact h1
theorem ChR.step {N:Nat} {l c q:List Nat} {r:Nat} (h:ChR N l c) (h0:l≠[]) (hq:wv q=wv l / 1000000000) (hr:r=wv l % 1000000000) (hw:Ws q):ChR N (de q) (c++[r]):=by
 have hp:=oA h.nl h0;have hd:=Nat.mod_add_div (wv l) 1000000000
 constructor
 · exact ml q hw
 · intro x hx;rw[List.mem_append,List.mem_singleton] at hx;rcases hx with hx | hx
   · exact h.lt x hx
   · rw[hx,hr];exact Nat.mod_lt _ (by omega)
 · rw[oX,gn,hq,aE,aS,Nat.pow_succ,Nat.mul_assoc,hr,Nat.add_assoc,←Nat.mul_add,hd];exact h.val
 · intro e;have:wv q=0:=by rw[←gn,e];rfl
   refine ⟨by simp,?_⟩
   simp
   omega
theorem ChR.few {N:Nat} {l c:List Nat} (h:ChR N l c) (h0:l≠[]) {L:Nat} (hN:N<BB ^ L):c.length<32*L:=by
 have hp:=oA h.nl h0;have h1:=h.val;have h2:1000000000 ^ c.length*1≤1000000000 ^ c.length*wv l:=Nat.mul_le_mul_left _ hp;have h3:2 ^ c.length≤1000000000 ^ c.length:=Nat.pow_le_pow_left (by omega) _;have h4:BB ^ L=2 ^ (32*L):=by rw[bj,Nat.pow_mul]
 rw[h4] at hN;exact (Nat.pow_lt_pow_iff_right (by omega:1<2)).1 (by omega)
theorem ChR.done {N:Nat} {c:List Nat} (h:ChR N [] c):dc c=aU N∧c≠[]:=by
 obtain ⟨h1,h2⟩:=h.last rfl;have h3:=h.val;rw[dh,Nat.mul_zero,Nat.add_zero] at h3;rw[←h3];exact ⟨(sT c h1 h.lt h2).1,h1⟩
theorem po {c:List Nat} {i:Nat} (hi:i<c.length):dc (c.drop i)=dc (c.drop (i+1))++(if i+1<c.length then List.replicate (9-(aU (c.getD i 0)).length) 48 else [])++aU (c.getD i 0):=by
 rw[List.drop_eq_getElem_cons hi,eB c i hi]
 by_cases h:i+1<c.length
 · rw[aF h,gO _ _ (by intro e;have:=congrArg List.length e;rw[List.length_drop] at this;simp at this;omega),ms,List.append_assoc]
 · rw[aB h,List.drop_of_length_le (by omega)]
   simp[dc]
theorem ly (c:List Nat) (h:∀x∈c,x<1000000000):(dc c).length≤9*c.length:=by
 induction c with
 | nil=>simp[dc]
 | cons x r ih=>
   have hx:=h x (by simp)
   by_cases hr:r=[]
   · subst hr;simp only[dc,List.reverse_cons,List.reverse_nil,List.nil_append,List.map_nil,List.flatten_nil,List.append_nil];have:=cQ (n:=x) (k:=9) (by omega) (by omega)
     simpa using this
   · rw[gO x r hr,aE,qL x hx,aw];have:=ih (fun y hy=>h y (by simp[hy]))
     omega
end Nmx
namespace Go.Proofs.YtpkfnnkbfphfbaaGreatDoor
open Go.RowKit Nmx Go.Proofs.Tryz
theorem ny {w:World} {b:Nat} {t:TypeId} {sz:Nat} {v:Value} {n:Nat} {xs:List Value} (h:w.ownsRow b t sz v n xs) {g:Nat} (hg:g<b) (i:Nat) (x:Value):(w.setCell ⟨g,i,none⟩ x).ownsRow b t sz v n xs:=by
 obtain ⟨hx,h | ⟨g',cap,cur,hv,hb,hh,r⟩⟩:=h
 · exact ⟨hx,.inl h⟩
 · exact ⟨hx,.inr ⟨g',cap,cur,hv,hb,(aG _ _ _ _ (by show g'≠g;omega)).trans hh,r⟩⟩
theorem kS {w w1:World} {b:Nat} {t:TypeId} {sz:Nat} {v:Value} {n:Nat} {xs:List Value} (h:w.ownsRow b t sz v n xs) {B:Nat} (hb:Below B w w1) (hB:w.heap.size≤B):w1.ownsRow b t sz v n xs:=by
 obtain ⟨hx,h | ⟨g,cap,cur,hv,hg,hh,r⟩⟩:=h
 · exact ⟨hx,.inl h⟩
 · exact ⟨hx,.inr ⟨g,cap,cur,hv,hg,(hb.block g (by have:=ar hh;omega)).trans hh,r⟩⟩
theorem vS {w w1:World} {b:Nat} {t:TypeId} {sz:Nat} {v v':Value} {n:Nat} {xs:List Value} (h:w.ownsRow b t sz v n xs) (hg:w.grownBy w1 v'.ownBlock) (hne:∀k,v'.ownBlock=some k→v.ownBlock≠some k):w1.ownsRow b t sz v n xs:=by
 refine h.kept hg ?_;rcases hv:v.ownBlock with _ | k
 · exact .inl rfl
 · exact .inr fun e=>hne k e.symm (by rw[hv])
theorem tu {w:World} {b g cap:Nat} {l:List Nat} (h:w.ownsRow b 207 1 (.slice (some ⟨g,0,none⟩) l.length cap) l.length (bT l)) (k:Nat) (hk:k≤l.length):w.ownsRow b 207 1 (.slice (some ⟨g,0,none⟩) (l.take k).length cap) (l.take k).length (bT (l.take k)):=by
 obtain ⟨hx,h | ⟨g',cap',cur,hv,hg,hh,hc,hm,hs,ht⟩⟩:=h
 · cases h.1
 · injection hv with e1 e2 e3;injection e1 with e1;injection e1 with e1;subst e1 e3;have hl:(l.take k).length=k:=by rw[List.length_take];omega
   refine ⟨by rw[iz,hl];omega,.inr ⟨g,cap,cur,rfl,hg,hh,by omega,hm,hs,?_⟩⟩;rw[Nat.mul_one] at ht;rw[hl,Nat.mul_one];have e:bT (l.take k)=(bT l).take k:=by simp[bT,List.map_take]
   rw[e,←ht,List.take_take];congr 1;omega
theorem mH {w:World} {b g cap:Nat} {l:List Nat} (h:w.ownsRow b 207 1 (.slice (some ⟨g,0,none⟩) l.length cap) l.length (bT l)) (hw:Ws l):WS w (some ⟨g,0,none⟩) g 0 cap l:=by
 have h':=h;obtain ⟨hx,h | ⟨g',cap',cur,hv,hg,hh,hc,hm,_⟩⟩:=h
 · cases h.1
 · injection hv with e1 e2 e3;injection e1 with e1;injection e1 with e1;subst e1 e3;exact ⟨hc,by unfold maxLen at hm;omega,fun _=>rfl,(fun h=>by cases h),fun _=>⟨_,_,hh⟩,fun i hi=>by rw[Nat.zero_add];exact (iB h' i hi).1,hw⟩
theorem WS.news {w:World} {g off cap:Nat} {l:List Nat} (h:WS w (some ⟨g,off,none⟩) g off cap l):∀j u,(bT l)[j]? =some u→w.cell? ((⟨g,off,none⟩:Addr).add j)=some u:=by
 intro j u hu;have hj:j<l.length:=by have:=(List.getElem?_eq_some_iff.1 hu).1;rwa [iz] at this
 rw[lN l j hj] at hu;cases hu
 rw[Addr.add_lit];exact h.at_ j hj
theorem qY (l:List Nat):∀u∈bT l,u.oneCell'=true:=by
 intro u hu;simp only[bT,List.mem_map] at hu;obtain ⟨n,_,rfl⟩:=hu;rfl
def bcs (l:List UInt8):List Value:=l.map fun b=>Value.int .u8 (b.toNat:Int)
theorem bcs_append (a b:List UInt8):bcs (a++b)=bcs a++bcs b:=by simp[bcs]
theorem uO (s:ByteArray):Lib.strCells s=bcs s.data.toList:=rfl
def OB (w:World) (b:Nat) (v:Value) (l:List UInt8):Prop:=w.ownsRow b 5 1 v l.length (bcs l)
theorem OB.cells {w:World} {b g n cap:Nat} {l:List UInt8} (h:OB w b (.slice (some ⟨g,0,none⟩) n cap) l):n=l.length∧∀j (hj:j<l.length),w.cell? ((⟨g,0,none⟩:Addr).add j)=some (.int .u8 (l[j].toNat:Int)):=by
 have h':=h;obtain ⟨hx,h | ⟨g',cap',cur,hv,_⟩⟩:=h
 · cases h.1
 · injection hv with e1 e2 e3;refine ⟨e2,fun j hj=>?_⟩;exact World.ownsRow.cells h' (g:=g) rfl j _ (by simp[bcs,hj])
theorem OB.shape {w:World} {b:Nat} {v:Value} {l:List UInt8} (h:OB w b v l) (hn:0<l.length):∃g cap,v=.slice (some ⟨g,0,none⟩) l.length cap:=by
 obtain ⟨_,h | ⟨g,cap,cur,hv,_⟩⟩:=h
 · omega
 · exact ⟨g,cap,hv⟩
theorem infoU8:(prog.info? 5).map (fun i=>(i.zero,i.size,i.bytes))=some (some (.int .u8 0),1,1):=by kernel_rfl
theorem xS (n:Nat) (hn:n≤1000000000) (z:Int) (hz:z=n) (W:World):
    (Instr.makeSlice 99 (.int .i64 0) (.int .i64 z)).run prog W=.ok (.slice (some ⟨W.heap.size,0,none⟩) 0 n) (W.alloc (.cells (madeCells #[.int .u8 0] n) 5)):=by
 subst hz;obtain ⟨i0,hi,hz0,hz1,hz2⟩:=info_parts infoU8;have hr:=run_make (P:=prog) W 99 5 i0 _ underlying99 hi hz0 .i64 .i64 0 n (by omega) (by omega) (by rw[hz2];omega) (by omega);rw[hz1,Int.toNat_natCast,Nat.mul_one] at hr;exact hr
theorem OB.made (w:World) (n:Nat) (hn:n≤1000000000):OB (w.alloc (.cells (madeCells #[.int .u8 0] n) 5)) w.heap.size (.slice (some ⟨w.heap.size,0,none⟩) 0 n) []:=
 World.ownsRow_made w _ n (aj _) (by unfold maxLen;omega) (by rw[size_madeCells,Nat.mul_one])
theorem sz_txt (l:List UInt8):(⟨l.toArray⟩:ByteArray).size=l.length:=by simp[ByteArray.size]
theorem nz (b:Bool) (g off cap:Nat) (l:List Nat) (w:World) (hE:Env w) (hw:WS w (some ⟨g,off,none⟩) g off cap l) (hl:Big l):
    Calls prog 145 #[iA b (some ⟨g,off,none⟩) l.length cap] w fun e w'=>e=.returned (.string ⟨(bS (sgn b (wv l))).toArray⟩)∧Below w.heap.size w w':=by
 have kq:=cB;obtain ⟨i0,hi,hz0,hz1,hz2⟩:=info_parts lP;obtain ⟨j0,hj,hy0,hy1,hy2⟩:=info_parts infoU8;have hne:l≠[]:=fun e=>by have:=hl.pos;rw[e] at this;simp[dh] at this
 have hlen:0<l.length:=List.length_pos_iff.2 hne;have hlm:l.length≤1000000:=hl.2.2;have HLT:Hid (wv l<BB ^ l.length):=hid (eW l hl.1.1);have HCH:=hid (ChR.start hl.1 hne);have HTXT:Hid (bS (sgn b (wv l))=if b then 45::aU (wv l) else aU (wv l)):=hid (xR b _ (fun _=>hl.pos.1));have HBL0:Hid (Below w.heap.size w (w.alloc (.cells #[.int .i64 0,.bool b,.slice (some ⟨g,off,none⟩) l.length cap] 73))):=hid ((am _ _).alloc (aj _) _);have HNEWS:=hid (hw.far HBL0.out).news;have HWS:=hid hl.1.1;have HE0:=hid hE;generalize hN:wv l=N at *;clear hE hw hl hN hne;unfold iA
 go_enter func145,ntmps145
 go_wp2_with (at_builtin;refine wpList_append_own _ rfl _ _ 71 rfl (w.heap.size+1) 207 i0 (.int .u32 0) 1 4 underlying71 hi hz0 hz1 hz2 rfl (by decide) _ 0 [] rfl (World.ownsRow_nil _ _ _ _) ⟨g,off,none⟩ l.length cap (bT l) rfl (by rw[iz,Nat.mul_one]) HNEWS.out (qY l) (by unfold maxLen;omega) (by omega) (by simp) ?_)
 intro v2 w2 hown hgrow _;obtain ⟨g1,cap1,hv,hg1,hcap1⟩:=fQ hown hlen;subst hv;have hg1lt:=(hown.lt g1 rfl).2;have HBX:Hid (w2.heap[w.heap.size]? =some (.cells #[.int .i64 0,.bool b,.slice (some ⟨g,off,none⟩) l.length cap] 73 (0,0))):=hid ((hgrow.block w.heap.size (by simp) (fun e=>by cases e)).trans (aq w _));have HB2:=hid (HBL0.out.grown hgrow (by simp) (fun k hk=>by cases hk));have HOW:=hid hown;clear hown hgrow HNEWS HBL0
 go_wp2
 go_loopw [3,4] (fun sv cv wr=>∃(l2 c:List Nat),sv=.slice (some ⟨g1,0,none⟩) l2.length cap1∧wr.ownsRow (w.heap.size+1) 207 1 (.slice (some ⟨g1,0,none⟩) l2.length cap1) l2.length (bT l2)∧wr.ownsRow (g1+1) 207 1 cv c.length (bT c)∧ChR N l2 c∧c.length≤32*l.length∧Below g1 w2 wr) (fun _ cv _=>32*l.length+1-(match cv with | .slice _ n _=>n | _=>0))
 case atStart=>exact ⟨l,[],rfl,HOW.out,World.ownsRow_nil _ _ _ _,HCH.out,by simp,am _ _⟩
 case round=>
  obtain ⟨l2,c,rfl,hown,hch,hcr,hcl,hbel⟩:=hrel;have hlt:=(hown.lt g1 rfl).2;have HO:=hid hown;have HC:=hid hch;have HCR:=hid hcr;have HBl:=hid hbel;clear hown hch hcr hbel HOW HCH
  by_cases h2:l2=[]
  · have hnp:¬(0:Int)<(l2.length:Int):=by rw[h2];simp
    obtain ⟨hT,hcne⟩:=(show ChR N [] c by have:=HCR.out;rwa [h2] at this).done;have hcpos:0<c.length:=List.length_pos_iff.2 hcne;have HT:=hid hT;have HLC:=hid HCR.out.lt;have hWc:Ws c:=fun x hx=>by have:=HLC.out x hx;rw[bj];omega
    obtain ⟨gc,capc,hcv,hgc,hccap⟩:=fQ HC.out hcpos;subst hcv;have HCW:=hid (mH HC.out hWc);have hccm:capc≤9223372036854775807:=HCW.out.most;have hmk:=xS (c.length*9+1) (by omega) ((c.length:Int)*9+1) (by omega);have HOB:=hid (OB.made wr (c.length*9+1) (by omega));have HBA:Hid (Below wr.heap.size wr (wr.alloc (.cells (madeCells #[.int .u8 0] (c.length*9+1)) 5))):=hid ((am _ _).alloc (aj _) _);have hbx0:=(HBl.out.block w.heap.size (by omega)).trans HBX.out;have hbx1:=aa hbx0 1;have hbxs:=ar hbx0;have HFAR:Hid (Below w.heap.size w wr):=hid (HB2.out.trans (HBl.out.mono (by omega)));have HEr:Hid (Env wr):=hid (HE0.out.far HFAR.out);have HLEN:=hid (ly c HLC.out);clear hT hcne hWc hbx0 HC HCR HO HBl HBX HB2 HLT h2
    simp at hbx1
    obtain ⟨wA,rfl⟩:∃wo:World,wo=wr:=⟨_,rfl⟩
    go_upto_if 60 with fail
    go_cut [8] (fun ov wx=>OB wx wA.heap.size ov (if b then [45] else [])∧Below wA.heap.size wA wx)
    case first=>
     cases b
     · go_wp2
       go_meet
       exact ⟨HOB.out,HBA.out⟩
     · go_wp2_with (at_builtin;refine wpList_append_own _ rfl _ _ 99 rfl wA.heap.size 5 j0 (.int .u8 0) 1 1 underlying99 hj hy0 hy1 hy2 rfl (by decide) _ 0 _ rfl (World.ownsRow.alloc HOB.out _) ⟨wA.heap.size+1,0,none⟩ 1 1 [.int .u8 45] rfl rfl (World.news_of_block (cs:=#[.int .u8 45]) (t:=5) (fr:=(0,0)) (bM wA _ _)) (by simp[Value.oneCell']) (by unfold maxLen;omega) (by omega) (by simp;omega) ?_)
       intro v4 w4 hown4 hgrow4 _;have HB4:=hid ((HBA.out.alloc (by simp) _).grown hgrow4 (by simp;omega) (fun j hj=>(HOB.out.lt j hj).1));have HO4:=hid hown4;clear hown4 hgrow4
       go_wp2
       go_meet
       exact ⟨HO4.out,HB4.out⟩
    case rest=>
     obtain ⟨hob,hbc⟩:=hcut;have HOC:=hid hob;have HBC:=hid hbc;clear hob hbc HOB HBA hmk
     go_wp2
     go_loopw [8,9] (fun ov iv wx=>∃(k:Nat) (o:List UInt8),k≤c.length∧iv=.int .i64 ((k:Int)-1)∧o=(if b then [45] else [])++dc (c.drop k)∧OB wx wA.heap.size ov o∧Below wA.heap.size wA wx) (fun _ iv _=>(intOf iv+1).toNat)
     case atStart=>exact ⟨c.length,_,aj _,rfl,by rw[List.drop_of_length_le (aj _)];simp[dc],HOC.out,HBC.out⟩
     case round=>
      clear HOC HBC;obtain ⟨k,o,hk,rfl,ho,hob,hbx⟩:=hrel;have HO:=hid ho;have HOBx:=hid hob;have HBx:=hid hbx;have hszx:=hbx.size
      have hol:o.length≤9*c.length+1:=by
       rw[ho,aE];have h1:=ly (c.drop k) (fun x hx=>HLC.out x (List.mem_of_mem_drop hx));rw[List.length_drop] at h1;have h2:(if b then [(45:UInt8)] else []).length≤1:=by cases b <;> simp
       omega
      clear ho hob hbx;rcases Nat.eq_zero_or_pos k with h0 | h0
      · subst h0
        have hE:o=bS (sgn b N):=by
         rw[HTXT.out,HO.out,List.drop_zero,HT.out];cases b <;> rfl
        have hop:0<o.length:=by
         rw[HO.out,List.drop_zero,HT.out,aE];have:=dE N;omega
        have HEE:=hid hE;obtain ⟨g3,cap3,hv3⟩:=OB.shape HOBx.out hop;subst hv3
        have hcv:Sem.run prog (convert 99 9 (.slice (some ⟨g3,0,none⟩) o.length cap3)) wr=.ok (.string ⟨o.toArray⟩) wr:=
         run_convert_bytes_back (P:=prog) wr 99 9 5 ⟨g3,0,none⟩ cap3 o underlying99 underlying5 underlying9 HOBx.out.cells.2
        clear hE
        go_wp2
        go_ret
        exact ⟨by rw[HEE.out];rfl,HFAR.out.trans (HBx.out.mono HFAR.out.size)⟩
      · have hck:=HCW.out.keep HBx.out (i:=k-1) (by omega);rw[Nat.zero_add] at hck;have p0:(0:Int)≤(k:Int)-1:=by omega
        have p1:((k:Int)-1).toNat=k-1:=by omega
        have p2:(k:Int)-1<(c.length:Int):=by omega
        have hxl:c.getD (k-1) 0<1000000000:=by
         rw[eB c (k-1) (by omega)];exact HLC.out _ (List.getElem_mem _)
        have HTX0:=hid (po (c:=c) (i:=k-1) (by omega));have hkk:k-1+1=k:=by omega
        rw[hkk] at HTX0;generalize c.getD (k-1) 0=x at *;have hx0:(0:Int)≤(x:Int):=by omega
        have hit:=Tryz.strconv_Itoa x (by omega) (by omega) wr (HEr.out.far HBx.out).tab;rw[uJ,fC] at hit;have hdl1:=cQ (n:=x) (k:=9) (by omega) (by omega)
        go_wp2_with fail
        refine hit.mono ?_;rintro e w5 ⟨rfl,kd,os,hw5⟩;have hb5:Below wr.heap.size wr w5:=by rw[hw5];exact Lib.below_grow wr.heap.size _ (aj _) kd os
        have HOB5:Hid (OB w5 wA.heap.size _ o):=hid (kS HOBx.out hb5 (aj _));have HB5:=hid (HBx.out.trans (hb5.mono hszx));have hsz5:=HB5.out.size;clear hw5 hb5 hit HOBx HBx hck
        by_cases hlast:k<c.length
        · have q1:(k:Int)-1<(c.length:Int)-1:=by omega
          have HTX:Hid ((if b then [45] else [])++dc (c.drop (k-1))=o++List.replicate (9-(aU x).length) 48++aU x):=hid (by rw[HTX0.out,aF hlast,HO.out];simp[List.append_assoc])
          go_wp2_with fail
          go_loopw [8,11] (fun ov jv wx=>∃m:Nat,(aU x).length≤m∧m≤9∧jv=.int .i64 m∧OB wx wA.heap.size ov (o++List.replicate (m-(aU x).length) 48)∧Below wA.heap.size wA wx) (fun _ jv _=>9-(intOf jv).toNat)
          case atStart=>exact ⟨(aU x).length,aj _,hdl1,by simp,by rw[Nat.sub_self];simpa using HOB5.out,HB5.out⟩
          case round=>
           obtain ⟨m,hm1,hm2,rfl,hob6,hb6⟩:=hrel;have HOB6:=hid hob6;have HB6:=hid hb6;have hsz6:=hb6.size;clear hob6 hb6 HOB5 HB5
           by_cases hm9:m<9
           · go_wp2_with (at_builtin;refine wpList_append_own _ rfl _ _ 99 rfl wA.heap.size 5 j0 (.int .u8 0) 1 1 underlying99 hj hy0 hy1 hy2 rfl (by decide) _ (o++List.replicate (m-(aU x).length) 48).length _ rfl (World.ownsRow.alloc HOB6.out _) ⟨wr.heap.size,0,none⟩ 1 1 [.int .u8 48] rfl rfl (World.news_of_block (cs:=#[.int .u8 48]) (t:=5) (fr:=(0,0)) (aq wr _)) (by simp[Value.oneCell']) (by simp;unfold maxLen;omega) (by simp;omega) (by simp;omega) ?_)
             intro v7 w7 hown7 hgrow7 _;have HB7:=hid ((HB6.out.alloc (by omega) _).grown hgrow7 (by simp;omega) (fun j hj=>(HOB6.out.lt j hj).1))
             have HOB7:Hid (OB w7 wA.heap.size v7 (o++List.replicate (m+1-(aU x).length) 48)):=hid (by
              rw[show m+1-(aU x).length=m-(aU x).length+1 by omega,List.replicate_succ',←List.append_assoc];unfold OB;rw[aE,aS,bcs_append,aE,List.length_replicate]
              exact hown7)
             clear hown7 hgrow7
             go_wp2
             exact ⟨⟨m+1,by omega,by omega,by go_num,HOB7.out,HB7.out⟩,by simp[intOf];omega⟩
           · obtain rfl:m=9:=by omega
             have hq1:(o++List.replicate (9-(aU x).length) 48).length=o.length+(9-(aU x).length):=by simp
             obtain ⟨o2,ho2⟩:∃o2,o++List.replicate (9-(aU x).length) 48=o2:=⟨_,rfl⟩
             rw[ho2] at hq1 HOB6 HTX;have HQ1:=hid hq1;clear ho2 hq1
             go_wp2_with (at_builtin;refine Lib.wpList_append_own_string _ rfl _ _ 99 9 rfl wA.heap.size 5 j0 underlying99 underlying9 hj hy0 hy1 hy2 _ o2.length _ rfl (HOB6.out) ⟨(aU x).toArray⟩ rfl (by have:=HQ1.out;rw[sz_txt];unfold maxLen;omega) (by have:=HQ1.out;rw[sz_txt];omega) (hsz6) ?_)
             intro v7 w7 hown7 hgrow7 _;have HB7:=hid (HB6.out.grown hgrow7 (hsz6) (fun j hj=>(HOB6.out.lt j hj).1))
             have HOB7:Hid (OB w7 wA.heap.size v7 ((if b then [45] else [])++dc (c.drop (k-1)))):=hid (by
              rw[HTX.out];unfold OB;have h:=hown7;rw[uO,←bcs_append] at h
              simpa [ByteArray.size,Nat.add_assoc] using h)
             clear hown7 hgrow7
             go_wp2
             exact ⟨⟨k-1,_,by omega,by congr 1;omega,rfl,HOB7.out,HB7.out⟩,by simp[intOf];omega⟩
        · have q1:¬(k:Int)-1<(c.length:Int)-1:=by omega
          have HTX:Hid ((if b then [45] else [])++dc (c.drop (k-1))=o++aU x):=hid (by rw[HTX0.out,aB hlast,HO.out];simp[List.append_assoc]);have HOB6:=HOB5;have HB6:=HB5;have HQ1:Hid (o.length=o.length):=hid rfl
          go_wp2_with (at_builtin;refine Lib.wpList_append_own_string _ rfl _ _ 99 9 rfl wA.heap.size 5 j0 underlying99 underlying9 hj hy0 hy1 hy2 _ o.length _ rfl (HOB6.out) ⟨(aU x).toArray⟩ rfl (by have:=HQ1.out;rw[sz_txt];unfold maxLen;omega) (by have:=HQ1.out;rw[sz_txt];omega) (hsz5) ?_)
          intro v7 w7 hown7 hgrow7 _;have HB7:=hid (HB6.out.grown hgrow7 (hsz5) (fun j hj=>(HOB6.out.lt j hj).1))
          have HOB7:Hid (OB w7 wA.heap.size v7 ((if b then [45] else [])++dc (c.drop (k-1)))):=hid (by
           rw[HTX.out];unfold OB;have h:=hown7;rw[uO,←bcs_append] at h
           simpa [ByteArray.size,Nat.add_assoc] using h)
          clear hown7 hgrow7
          go_wp2
          exact ⟨⟨k-1,_,by omega,by congr 1;omega,rfl,HOB7.out,HB7.out⟩,by simp[intOf];omega⟩
  · have hp:(0:Int)<(l2.length:Int):=by have:=List.length_pos_iff.2 h2;omega
    have hfew:c.length<32*l.length:=HCR.out.few h2 HLT.out;have HWL:=hid HCR.out.nl.1;have hl2le:l2.length≤9223372036854775807:=by have:=(mH HO.out HWL.out);have h1:=this.le;have h2:=this.most;omega
    obtain ⟨ca,cc,hcv⟩:=jg HC.out;subst hcv;have H2:=hid h2;clear h2;obtain ⟨wo,rfl⟩:∃wo:World,wo=wr:=⟨_,rfl⟩
    go_wp2
    go_loopw [5,6] (fun rv iv wr=>∃(k rr:Nat) (q:List Nat),k≤l2.length∧iv=.int .i64 ((k:Int)-1)∧rv=.int .u64 rr∧DivI l2 q 1000000000 k rr∧wr.ownsRow (w.heap.size+1) 207 1 (.slice (some ⟨g1,0,none⟩) q.length cap1) q.length (bT q)∧wr.ownsRow (g1+1) 207 1 (.slice ca c.length cc) c.length (bT c)∧Below g1 w2 wr) (fun _ iv _=>(intOf iv+1).toNat)
    case atStart=>exact ⟨l2.length,0,l2,aj _,rfl,rfl,DivI.start l2 _ HWL.out (by omega),HO.out,HC.out,HBl.out⟩
    case round=>
     obtain ⟨k,rr,q,hk,rfl,rfl,hdv,hown,hch,hbel⟩:=hrel;have hql:=hdv.len;have hrr:rr<1000000000:=hdv.r1;have hrr0:(0:Int)≤(rr:Int):=by omega
     have hlt:=(hown.lt g1 rfl).2;have HD:=hid hdv;have HO2:=hid hown;have HC2:=hid hch;have HBl2:=hid hbel;clear hdv hch hbel HO HC HBl;rcases Nat.eq_zero_or_pos k with h0 | h0
     · subst h0;obtain ⟨d1,d2⟩:=HD.out.done;have HSTEP:=hid (HCR.out.step H2.out d1 d2 HD.out.ws);have htr:=iy (some ⟨g1,0,none⟩) g1 0 cap1 q wr (mH hown HD.out.ws);rw[hql] at htr;have HOT:=hid (tu hown (de q).length (e6 q));rw[←fA] at HOT;clear d1 d2 hown
       go_wp2_with fail
       refine htr.mono ?_;rintro e w3 ⟨rfl,rfl⟩;clear htr
       go_wp2_with (at_builtin;refine wpList_append_own _ rfl _ _ 71 rfl (g1+1) 207 i0 (.int .u32 0) 1 4 underlying71 hi hz0 hz1 hz2 rfl (by decide) _ c.length _ rfl (HC2.out.alloc _) ⟨wr.heap.size,0,none⟩ 1 1 [.int .u32 rr] rfl rfl (World.news_of_block (cs:=#[.int .u32 rr]) (t:=207) (fr:=(0,0)) (aq wr _)) (by simp[Value.oneCell']) (by unfold maxLen;omega) (by omega) (by simp;omega) ?_)
       intro v4 w4 hown4 hgrow4 _;have hne4:∀j,(Value.slice ca c.length cc).ownBlock=some j→g1+1≤j:=fun j hj=>(HC2.out.lt j hj).1
       have HO4:=hid (vS (HOT.out.alloc _) hgrow4 (fun j hj e=>by have h1:=hne4 j hj;injection e with e;have e:g1=j:=e;omega));have HB4:=hid ((HBl2.out.alloc (by omega) _).grown hgrow4 (by simp;omega) (fun j hj=>by have:=hne4 j hj;omega))
       have HC4:Hid (w4.ownsRow (g1+1) 207 1 v4 (c++[rr]).length (bT (c++[rr]))):=hid (by
        rw[aE,aS];simpa [bT] using hown4)
       have hv4:∃a' c',v4=.slice a' (c.length+1) c':=by
        obtain ⟨a',c',h⟩:=jg HC4.out;exact ⟨a',c',by rw[h,aE,aS]⟩
       obtain ⟨a',c',rfl⟩:=hv4;clear hown4 hgrow4
       go_wp2
       refine ⟨⟨de q,c++[rr],rfl,HO4.out,HC4.out,HSTEP.out,by rw[aE,aS];omega,HB4.out⟩,?_⟩;show 32*l.length+1-(c.length+1)<32*l.length+1-c.length
       omega
     · obtain ⟨hcl,hfz⟩:=iB hown (k-1) (by omega);have hlow:=HD.out.low (k-1) (by omega);rw[hlow] at hcl;have hx:=cW (i:=k-1) HWL.out;have hx0:(0:Int)≤((l2.getD (k-1) 0:Nat):Int):=by omega
       have HSP:Hid (∀t,t=l2.getD (k-1) 0+4294967296*rr→DivI l2 (q.set (k-1) (t / 1000000000)) 1000000000 (k-1) (t % 1000000000)∧t / 1000000000<BB):=hid (fun t ht=>by
        have h:=HD.out;rw[show k=k-1+1 by omega] at h
        exact h.step HWL.out (by omega) t (by rw[ht,bj,Nat.mul_comm rr];omega))
       have HSET:=hid (kO hown);have hor:=jY rr (l2.getD (k-1) 0) (by omega) (by omega);have p0:(0:Int)≤(k:Int)-1:=by omega
       have p1:((k:Int)-1).toNat=k-1:=by omega
       have p2:(k:Int)-1<(l2.length:Int):=by omega
       clear hown hlow;generalize l2.getD (k-1) 0=x at *;have hP1:x+4294967296*rr<18446744073709551616:=by omega
       obtain ⟨s1,s2⟩:=HSP.out _ rfl;have S1:=hid s1;rw[bj] at s2;clear s1 HSP;generalize x+4294967296*rr=P at *;have hP0:(0:Int)≤(P:Int):=by omega
       have e1:(P:Int) / 1000000000=((P / 1000000000:Nat):Int):=by omega
       have e2:(P:Int) % 1000000000=((P % 1000000000:Nat):Int):=by omega
       have E1:=hid e1;have E2:=hid e2;clear e1 e2
       go_wp2
       rw[E1.out,E2.out];exact ⟨⟨k-1,P % 1000000000,q.set (k-1) (P / 1000000000),by omega,by congr 1;omega,rfl,S1.out,by (have h:=HSET.out (k-1) (P / 1000000000);rw[aQ] at h ⊢;exact h),ny HC2.out (by omega) _ _,HBl2.out.setCell (aj _) _⟩,by simp[intOf];omega⟩
theorem kU (z:Int):Ai z:=fun v w h hv=>by
 rcases hv with ⟨rfl,hs⟩ | ⟨b,g,off,cap,l,rfl,hw,hl,rfl⟩
 · exact lF z w h hs
 · exact nz b g off cap l w h hw hl
theorem mI (v:Value) (q:Rat) (w:World) (h:RV w v q) (hE:Env w) (hd:q.den≠1) (hsz:(bS q.num).length+(bS q.den).length≤1000000000):Calls prog 97 #[v] w fun e w'=>e=.returned (.string ⟨(bB q).toArray⟩)∧Below w.heap.size w w':=by
 obtain ⟨s1,b1,a1,n1,c1,s2,b2,a2,n2,c2,rfl,h1,h2⟩:=bG h;have hi:=fun o=>eh (.agg #[.int .i64 s1,.bool b1,.slice a1 n1 c1,.int .i64 s2,.bool b2,.slice a2 n2 c2]) q (w.alloc o) (h.far ((am _ _).alloc (aj _) o))
 have HB0:=hid ((am w.heap.size w).alloc (aj _) (.cells #[.int .i64 s1,.bool b1,.slice a1 n1 c1,.int .i64 s2,.bool b2,.slice a2 n2 c2] 75));have hdd:fE q=q.den:=by unfold fE;rw[aB hd]
 rw[hdd] at h2;have hn:=fun W (hW:Below w.heap.size w W)=>kU q.num _ W (hE.far hW) (h1.far hW)
 have hm:=fun W (hW:Below w.heap.size w W)=>kU (q.den:Int) _ W (hE.far hW) (h2.far hW)
 have HT:=hid (oy hd);have hdb:decide (q.den=1)=false:=by simpa using hd
 have hs1:(⟨(bS q.num).toArray⟩:ByteArray).size=(bS q.num).length:=sz_txt _;have hs2:(⟨(bS q.den).toArray⟩:ByteArray).size=(bS q.den).length:=sz_txt _
 have HS:Hid ((⟨(bS q.num).toArray⟩:ByteArray)++⟨#[47]⟩++⟨(bS q.den).toArray⟩=⟨(bB q).toArray⟩):=hid (by
  rw[oy hd];apply ByteArray.ext;rw[ByteArray.data_append,ByteArray.data_append];apply Array.toList_inj.1
  simp)
 rw[←hs1,←hs2] at hsz;generalize (⟨(bS q.num).toArray⟩:ByteArray)=t1 at *;generalize (⟨(bS q.den).toArray⟩:ByteArray)=t2 at *;have f1:¬(9223372036854775807≤t1.size):=by omega
 have f3:¬(9223372036854775807<t1.size+1):=by omega
 have f4:t1.size<9223372036854775807:=by omega
 have f2:¬(9223372036854775807<t1.size+1+t2.size):=by omega
 clear h hE h1 h2 hdd hs1 hs2 hsz hd
 go_enter func97,ntmps97
 go_wp2_with fail
 refine (hi _).mono ?_;rintro e w1 ⟨rfl,hb1⟩;have HR1:=hid ((hb1.block w.heap.size (by simp)).trans (aq w (.cells #[.int .i64 s1,.bool b1,.slice a1 n1 c1,.int .i64 s2,.bool b2,.slice a2 n2 c2] 75)));have HB1:=hid (HB0.out.trans (hb1.mono (by simp)));obtain ⟨y0,y1,y2,y3,y4,y5,-⟩:=Dozen.of HR1.out HR1.out;clear hb1 hi HB0;have hlt1:=ar HR1.out
 go_wp2
 go_region_held3 (fun w'=>w'.cell? ⟨w.heap.size,0,none⟩=some (.int .i64 s1)∧w'.cell? ⟨w.heap.size,1,none⟩=some (.bool b1)∧w'.cell? ⟨w.heap.size,2,none⟩=some (.slice a1 n1 c1)∧w'.cell? ⟨w.heap.size,3,none⟩=some (.int .i64 s2)∧w'.cell? ⟨w.heap.size,4,none⟩=some (.bool b2)∧w'.cell? ⟨w.heap.size,5,none⟩=some (.slice a2 n2 c2))
  (first | exact ⟨y0,y1,y2,y3,y4,y5⟩ | exact K1 | exact K2 | go_keep)
  (first
    | (go_at_call 145
       first
       | (with_reducible refine (hn _ HB1.out.drew).mono ?_
          rintro e w2 ⟨rfl,hb2⟩;have HB2:=hid (HB1.out.drew.trans (hb2.mono HB1.out.size))
          have K1:=Aj (show Below w1.drew.heap.size w1.drew w2 from hb2) hlt1 ⟨y0,y1,y2,y3,y4,y5⟩)
       | (with_reducible refine (hm _ HB2.out).mono ?_
          rintro e w3 ⟨rfl,hb3⟩;have HB3:=hid (HB2.out.trans (hb3.mono HB2.out.size))
          have K2:=Aj hb3 (aC hlt1 hb2.size) K1)))
 all_goals go_wp2
 all_goals go_ret
 all_goals exact ⟨bK HS.out,HB3.out⟩
theorem eE (v:Value) (q:Rat) (w:World) (h:RV w v q) (hE:Env w) (hsz:(bS q.num).length+(bS q.den).length≤1000000000):Calls prog 97 #[v] w fun e w'=>e=.returned (.string ⟨(bB q).toArray⟩)∧Below w.heap.size w w':=by
 by_cases hd:q.den=1
 · exact nr v q w h hE (kU _) hd
 · exact mI v q w h hE hd hsz
def RS (k:Nat) (q:Rat):Prop:=q.num.natAbs<BB ^ k∧q.den<BB ^ k
theorem Bk {k l:Nat} (h:k≤l):BB ^ k≤BB ^ l:=Nat.pow_le_pow_right bF h
theorem kV {z:Int} {k:Nat} (h:z.natAbs<BB ^ k) (hk:k≤1000):Fit z:=by
 obtain ⟨m,hm⟩:∃m,k+m=1000:=⟨1000-k,by omega⟩
 unfold Fit;rw[←hm];exact aC h (Bk (Nat.le_add_right _ _))
theorem xT {q:Rat} (h:q.den=1):fE q=0:=by unfold fE;rw[aF h]
theorem pp (s:ByteArray) (w:World) (hs:s.size≤1000000) (h:Env w) (hg:mD s.data.toList):Calls prog 33 #[.string s] w fun e w'=>e=.returned (.bool (bp s.data.toList).isSome)∧Below w.heap.size w w':=by
 have hp:=fh s w hs h hg;unfold cm at hp;generalize bp s.data.toList=oq at *
 go_enter func33,ntmps33
 go_wp2_with fail
 refine hp.mono ?_;rintro e w1 ⟨v,rfl,hv,hb1⟩;obtain ⟨s1,b1,a1,n1,c1,s2,b2,a2,n2,c2,rfl,-,-⟩:=bG hv;have HB:=hid hb1;clear hv hp hb1
 go_wp2
 go_ret
 exact ⟨rfl,HB.out.alloc HB.out.size _⟩
end Go.Proofs.YtpkfnnkbfphfbaaGreatDoor

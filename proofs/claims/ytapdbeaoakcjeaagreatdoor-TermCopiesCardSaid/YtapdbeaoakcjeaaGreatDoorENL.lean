/- Rat.IsInt, Num, Den, Sign of package exact; IsInt, Sign, Valid of package number. -/
import Derived.Test.YtapdbeaoakcjeaaGreatDoorENI
import Derived.Lib.SmallJoins
import Derived.StillTailTactics
import Derived.Lib.AppendIntMem
import Derived.Test.YtapdbeaoakcjeaaGreatDoorENC
import Derived.Lib.AppendStr
import Derived.Deep.CutBlock
import Derived.Deep.DeepCutAuto
import Derived.Deep.RegionHeld3
set_option maxRecDepth 100000
set_option maxHeartbeats 40000000
open Go.Lib (hid)
namespace Go.Proofs.YtapdbeaoakcjeaaGreatDoor
open Go.RowKit Nmx
theorem nw (q:Rat):decide (fx q=0)=decide (q.den=1):=by
 have:=q.den_nz;unfold fx
 by_cases h:q.den=1
 · rw[if_pos h];simp[h]
 · rw[if_neg h];simp[h];exact this
theorem cy {w:World} {v:Value} {q:Rat} (h:RV w v q):∃s1 b1 a1 n1 c1 s2 b2 a2 n2 c2,v=.agg #[.int .i64 s1,.bool b1,.slice a1 n1 c1,.int .i64 s2,.bool b2,.slice a2 n2 c2]∧IV w (.agg #[.int .i64 s1,.bool b1,.slice a1 n1 c1]) q.num∧IV w (.agg #[.int .i64 s2,.bool b2,.slice a2 n2 c2]) (fx q):=h
section
theorem gh (v:Value) (q:Rat) (w:World) (h:RV w v q):Calls Tryz.prog 121 #[v] w fun e w'=>e=.returned (.bool (decide (q.den=1)))∧Below w.heap.size w w':=by
 obtain ⟨s1,b1,a1,n1,c1,s2,b2,a2,n2,c2,rfl,h1,h2⟩:=cy h;have hz:=fun o=>dB _ _ _ (h2.alloc_of o)
 rw[nw] at hz;clear h h1 h2
 go_enter Tryz.func121,Tryz.ntmps121
 go_wp2_with fail
 refine (hz _).mono ?_;rintro e w1 ⟨rfl,hb1⟩
 go_wp2
 go_ret
 exact ⟨rfl,((ah _ _).alloc (ag _) _).trans (hb1.mono (by simp))⟩
theorem pG (v:Value) (q:Rat) (w:World) (h:RV w v q):Calls Tryz.prog 125 #[v] w fun e w'=>e=.returned (.int .i64 (cR q.num))∧Below w.heap.size w w':=by
 obtain ⟨s1,b1,a1,n1,c1,s2,b2,a2,n2,c2,rfl,h1,h2⟩:=cy h;have hz:=fun o=>eR _ _ _ (h1.alloc_of o)
 clear h h1 h2
 go_enter Tryz.func125,Tryz.ntmps125
 go_wp2_with fail
 refine (hz _).mono ?_;rintro e w1 ⟨rfl,hb1⟩
 go_wp2
 go_ret
 exact ⟨rfl,((ah _ _).alloc (ag _) _).trans (hb1.mono (by simp))⟩
theorem rp (v:Value) (q:Rat) (w:World) (h:RV w v q):Calls Tryz.prog 182 #[v] w (dT q.num w):=by
 obtain ⟨s1,b1,a1,n1,c1,s2,b2,a2,n2,c2,rfl,h1,h2⟩:=cy h;have H1:=hid h1;clear h h1 h2
 go_enter Tryz.func182,Tryz.ntmps182
 go_wp2
 have hbl:=gT w (.cells #[.int .i64 s1,.bool b1,.slice a1 n1 c1,.int .i64 s2,.bool b2,.slice a2 n2 c2] 157) (.cells #[.int .i64 s1,.bool b1,.slice a1 n1 c1] 155);exact bodyPost_ret (v:=.agg #[.int .i64 s1,.bool b1,.slice a1 n1 c1]) (by simp[results,Tryz.results182,go_sem]) rfl ⟨_,rfl,H1.out.far hbl,hbl⟩
def pH (l:List UInt8):Prop:=∀n d,aY (upto l)=some n→aY (behind l)=some d→1<d→pF n d
structure Env (w:World):Prop where
 big:0<w.heap.size
 len:∃m:Int,w.cell? ⟨0,0,none⟩=some (.int .i64 m)
 tab:Lib.TabIs Tryz.prog w "internal/strconv.uint64pow10" .u64 Lib.pow10Tab
theorem Env.far {w w1:World} (h:Env w) (hb:Below w.heap.size w w1):Env w1:=
 ⟨ap h.big hb.size,let ⟨m,hm⟩:=h.len;⟨m,(hb.cell (p:=⟨0,0,none⟩) h.big).trans hm⟩,Go.Joins.tab_stays (g:=5) (by kernel_rfl) h.tab hb (ag _)⟩
theorem iC (s:ByteArray) (w:World) (hs:s.size≤1000000) (h:Env w) (hg:pH s.data.toList):Calls Tryz.prog 120 #[.string s] w (ParsePost s.data.toList w):=by
 obtain ⟨m,hm⟩:=h.len;exact parse_any m s w hs h.big hm hg
theorem jr (s:ByteArray) (w:World) (hs:s.size≤1000000) (h:Env w) (hg:pH s.data.toList):Calls Tryz.prog 76 #[.string s] w fun e w'=>e=.returned (.bool (match bA s.data.toList with | some q=>decide (q.den=1) | none=>false))∧Below w.heap.size w w':=by
 have hp:=iC s w hs h hg;cases hq:bA s.data.toList with
 | none=>
   unfold ParsePost at hp;rw[hq] at hp;clear hq
   go_enter Tryz.func76,Tryz.ntmps76
   go_wp2_with fail
   refine hp.mono ?_;rintro e w1 ⟨v,rfl,hv,hb1⟩;obtain ⟨s1,b1,a1,n1,c1,s2,b2,a2,n2,c2,rfl,h1,h2⟩:=cy hv;have HB:=hid hb1;clear hv h1 h2 hp hb1
   go_wp2_with fail
   go_ret
   exact ⟨rfl,HB.out.alloc HB.out.size _⟩
 | some q=>
   unfold ParsePost at hp;rw[hq] at hp;clear hq
   go_enter Tryz.func76,Tryz.ntmps76
   go_wp2_with fail
   refine hp.mono ?_;rintro e w1 ⟨v,rfl,hv,hb1⟩;have hi:=fun o=>gh v q (w1.alloc o) (hv.far ((ah _ _).alloc (ag _) _))
   obtain ⟨s1,b1,a1,n1,c1,s2,b2,a2,n2,c2,rfl,h1,h2⟩:=cy hv;have HB:=hid hb1;clear hv h1 h2 hp hb1
   go_wp2_with fail
   refine (hi _).mono ?_;rintro e w2 ⟨rfl,hb2⟩;have HB2:=hid ((HB.out.alloc HB.out.size _).trans (hb2.mono (by have:=HB.out.size;simp;omega)));clear hb2 hi
   go_wp2_with fail
   go_ret
   exact ⟨rfl,HB2.out⟩
theorem kF (s:ByteArray) (w:World) (hs:s.size≤1000000) (h:Env w) (hg:pH s.data.toList):Calls Tryz.prog 79 #[.string s] w fun e w'=>e=.returned (.int .i64 (cR ((bA s.data.toList).getD 0).num))∧Below w.heap.size w w':=by
 have hp:=iC s w hs h hg;unfold ParsePost at hp;generalize bA s.data.toList=oq at *
 go_enter Tryz.func79,Tryz.ntmps79
 go_wp2_with fail
 refine hp.mono ?_;rintro e w1 ⟨v,rfl,hv,hb1⟩;have hi:=fun o=>pG v _ (w1.alloc o) (hv.far ((ah _ _).alloc (ag _) _))
 obtain ⟨s1,b1,a1,n1,c1,s2,b2,a2,n2,c2,rfl,h1,h2⟩:=cy hv;have HB:=hid hb1;clear hv h1 h2 hp hb1
 go_wp2_with fail
 refine (hi _).mono ?_;rintro e w2 ⟨rfl,hb2⟩;have HB2:=hid ((HB.out.alloc HB.out.size _).trans (hb2.mono (by have:=HB.out.size;simp;omega)));clear hb2 hi
 go_wp2_with fail
 go_ret
 exact ⟨rfl,HB2.out⟩
end
theorem bB {w:World} {R g:Nat} (h:g≠R) (x0 x1 x2 x3 x4 x5:Value) (i:Nat):((((((w.setCell ⟨R,0,none⟩ x0).setCell ⟨R,1,none⟩ x1).setCell ⟨R,2,none⟩ x2).setCell ⟨R,3,none⟩ x3).setCell ⟨R,4,none⟩ x4).setCell ⟨R,5,none⟩ x5).cell? ⟨g,i,none⟩=w.cell? ⟨g,i,none⟩:=by
 apply World.cell?_of_block;exact f9 h x0 x1 x2 x3 x4 x5
def Dozen (w:World) (g h:Nat) (x0 x1 x2 x3 x4 x5 y0 y1 y2 y3 y4 y5:Value):Prop:=
 w.cell? ⟨g,0,none⟩=some x0∧w.cell? ⟨g,1,none⟩=some x1∧w.cell? ⟨g,2,none⟩=some x2∧w.cell? ⟨g,3,none⟩=some x3∧w.cell? ⟨g,4,none⟩=some x4∧w.cell? ⟨g,5,none⟩=some x5∧w.cell? ⟨h,0,none⟩=some y0∧w.cell? ⟨h,1,none⟩=some y1∧w.cell? ⟨h,2,none⟩=some y2∧w.cell? ⟨h,3,none⟩=some y3∧w.cell? ⟨h,4,none⟩=some y4∧w.cell? ⟨h,5,none⟩=some y5
theorem Dozen.of {w:World} {g h:Nat} {x0 x1 x2 x3 x4 x5 y0 y1 y2 y3 y4 y5:Value} {t t':TypeId} (h1:w.heap[g]? =some (.cells #[x0,x1,x2,x3,x4,x5] t (0,0))) (h2:w.heap[h]? =some (.cells #[y0,y1,y2,y3,y4,y5] t' (0,0))):Dozen w g h x0 x1 x2 x3 x4 x5 y0 y1 y2 y3 y4 y5:=
 ⟨ac h1 0,ac h1 1,ac h1 2,ac h1 3,ac h1 4,ac h1 5,ac h2 0,ac h2 1,ac h2 2,ac h2 3,ac h2 4,ac h2 5⟩
theorem Dozen.set {w:World} {g h R:Nat} {x0 x1 x2 x3 x4 x5 y0 y1 y2 y3 y4 y5:Value} (k:Dozen w g h x0 x1 x2 x3 x4 x5 y0 y1 y2 y3 y4 y5) (hg:g≠R) (hh:h≠R) (z0 z1 z2 z3 z4 z5:Value):
    Dozen ((((((w.setCell ⟨R,0,none⟩ z0).setCell ⟨R,1,none⟩ z1).setCell ⟨R,2,none⟩ z2).setCell ⟨R,3,none⟩ z3).setCell ⟨R,4,none⟩ z4).setCell ⟨R,5,none⟩ z5) g h x0 x1 x2 x3 x4 x5 y0 y1 y2 y3 y4 y5:=by
 obtain ⟨k0,k1,k2,k3,k4,k5,l0,l1,l2,l3,l4,l5⟩:=k
 exact ⟨(bB hg _ _ _ _ _ _ 0).trans k0,(bB hg _ _ _ _ _ _ 1).trans k1,(bB hg _ _ _ _ _ _ 2).trans k2,(bB hg _ _ _ _ _ _ 3).trans k3,(bB hg _ _ _ _ _ _ 4).trans k4,(bB hg _ _ _ _ _ _ 5).trans k5,
  (bB hh _ _ _ _ _ _ 0).trans l0,(bB hh _ _ _ _ _ _ 1).trans l1,(bB hh _ _ _ _ _ _ 2).trans l2,(bB hh _ _ _ _ _ _ 3).trans l3,(bB hh _ _ _ _ _ _ 4).trans l4,(bB hh _ _ _ _ _ _ 5).trans l5⟩
theorem RV.heap_same {w w':World} {v:Value} {q:Rat} (h:RV w v q) {R:Nat} {cs:Array Value} {t:TypeId} {fr:Nat×Nat} (hR:w.heap[R]? =some (.cells cs t fr)) (ht:t≠235) (ho:∀k,k≠R→w'.heap[k]? =w.heap[k]?):RV w' v q:=
 let ⟨s1,b1,a1,n1,c1,s2,b2,a2,n2,c2,e,h1,h2⟩:=h
 ⟨s1,b1,a1,n1,c1,s2,b2,a2,n2,c2,e,h1.heap_same hR ht ho,h2.heap_same hR ht ho⟩
section
theorem kS (z:Int) (w:World) (h:Env w) (hz:Small z):Calls Tryz.prog 208 #[cq z] w fun e w'=>e=.returned (.string ⟨(bN z).toArray⟩)∧Below w.heap.size w w':=by
 have kq0:=dO;have hbl:∀o:Obj,Below w.heap.size w (w.alloc o):=fun o=>(ah _ _).alloc (ag _) _
 have hf:=fun o=>Tryz.strconv_FormatInt_10 z (by have:=hz.1;omega) (by have:=hz.2;omega) (w.alloc o) (h.far (hbl o)).tab
 rw[xA] at hf;unfold cq;clear h hz
 go_enter Tryz.func208,Tryz.ntmps208
 go_wp2_with fail
 refine (hf _).mono ?_;rintro e w1 ⟨rfl,k,os,hw⟩;have HB:Hid (Below w.heap.size (w.alloc (.cells #[.int .i64 z,.bool false,.slice none 0 0] 155)) w1):=hid (by rw[hw];exact Lib.below_grow w.heap.size _ (by simp) k os);clear hw
 go_wp2
 go_ret
 exact ⟨rfl,(hbl _).trans HB.out⟩
end
theorem xC (q:Rat):(if q.den=1 then (1:Int) else fx q)=q.den:=by
 unfold fx
 by_cases h:q.den=1
 · rw[if_pos h,h];rfl
 · rw[if_neg h,if_neg h]
section
theorem rq (v:Value) (q:Rat) (w:World) (h:RV w v q):Calls Tryz.prog 184 #[v] w (dT q.den w):=by
 obtain ⟨s1,b1,a1,n1,c1,s2,b2,a2,n2,c2,rfl,h1,h2⟩:=cy h;have HB0:=hid (gT w (.cells #[.int .i64 s1,.bool b1,.slice a1 n1 c1,.int .i64 s2,.bool b2,.slice a2 n2 c2] 157) (.cells #[.int .i64 0,.bool false,.slice none 0 0] 155));have hz:=dB _ _ _ (h2.far HB0.out);rw[nw] at hz;have H2:=hid h2;have HG:=hid (xC q);clear h h1 h2
 go_enter Tryz.func184,Tryz.ntmps184
 go_wp2_with fail
 refine hz.mono ?_;rintro e w1 ⟨rfl,hb1⟩;have HR1:=hid ((hb1.block w.heap.size (by simp;omega)).trans ((Below.heap_alloc _ _ _ (by simp)).trans (heap_alloc_new w _)));have HR2:=hid ((hb1.block (w.heap.size+1) (by simp)).trans (ct w _ _));have HB1:=hid (HB0.out.trans (hb1.mono (by simp;omega)));clear hb1 hz HB0
 by_cases hd:q.den=1
 · have hdb:decide (q.den=1)=true:=by simpa using hd
   have hf:=iI 1 w1 (by omega) (by omega);have HE:Hid ((q.den:Int)=1):=hid (by rw[hd];rfl);clear hd HG
   go_wp2_with fail
   refine hf.mono ?_;rintro e w2 ⟨v2,rfl,hv2,hb2⟩;have HV2:=hid hv2;obtain ⟨s3,b3,a3,n3,c3,rfl⟩:=aT hv2;have HS2:=hid ((hb2.block _ (ay HR2.out)).trans HR2.out);have HB2:=hid (HB1.out.trans (hb2.mono HB1.out.size));obtain ⟨r0,r1,r2,r3,r4,r5⟩:=Res.cells HS2.out;clear hv2 hb2 hf
   go_wp2
   rw[HE.out];exact dP Tryz.results184 rfl rfl HS2.out HV2.out HB2.out (by omega)
 · have hdb:decide (q.den=1)=false:=by simpa using hd
   have HE:Hid ((q.den:Int)=fx q):=hid (by rw[←HG.out,if_neg hd]);obtain ⟨y0,y1,y2,y3,y4,y5,-⟩:=Dozen.of HR1.out HR1.out;obtain ⟨r0,r1,r2,r3,r4,r5⟩:=Res.cells HR2.out;clear hd HG
   go_wp2
   rw[HE.out];exact dP Tryz.results184 rfl rfl HR2.out (H2.out.far HB1.out) HB1.out (by omega)
end
def nx (z:Int):Prop:=∀(v:Value) (w:World),Env w→IV w v z→Calls Tryz.prog 208 #[v] w fun e w'=>e=.returned (.string ⟨(bN z).toArray⟩)∧Below w.heap.size w w'
theorem ru {q:Rat} (h:q.den=1):bE q=bN q.num:=by unfold bE;rw[if_pos h,List.append_nil]
theorem ny {q:Rat} (h:q.den≠1):bE q=bN q.num++47::bN q.den:=by
 unfold bE;rw[if_neg h,jj]
theorem yz {a b:World} {g:Nat} {x0 x1 x2 x3 x4 x5:Value} (hb:Below a.heap.size a b) (hg:g<a.heap.size)
    (h:a.cell? ⟨g,0,none⟩=some x0∧a.cell? ⟨g,1,none⟩=some x1∧a.cell? ⟨g,2,none⟩=some x2∧a.cell? ⟨g,3,none⟩=some x3∧a.cell? ⟨g,4,none⟩=some x4∧a.cell? ⟨g,5,none⟩=some x5):
    b.cell? ⟨g,0,none⟩=some x0∧b.cell? ⟨g,1,none⟩=some x1∧b.cell? ⟨g,2,none⟩=some x2∧b.cell? ⟨g,3,none⟩=some x3∧b.cell? ⟨g,4,none⟩=some x4∧b.cell? ⟨g,5,none⟩=some x5:=by
 obtain ⟨k0,k1,k2,k3,k4,k5⟩:=h;have e:=hb.block g hg;refine ⟨?_,?_,?_,?_,?_,?_⟩ <;> simp only[World.cell?,e] at * <;> assumption
section
theorem mJ (v:Value) (q:Rat) (w:World) (h:RV w v q) (hE:Env w) (hn:nx q.num) (hd:q.den=1):Calls Tryz.prog 168 #[v] w fun e w'=>e=.returned (.string ⟨(bE q).toArray⟩)∧Below w.heap.size w w':=by
 obtain ⟨s1,b1,a1,n1,c1,s2,b2,a2,n2,c2,rfl,h1,h2⟩:=cy h;have hi:=fun o=>gh (.agg #[.int .i64 s1,.bool b1,.slice a1 n1 c1,.int .i64 s2,.bool b2,.slice a2 n2 c2]) q (w.alloc o) (h.far ((ah _ _).alloc (ag _) o))
 have HB0:=hid ((ah w.heap.size w).alloc (ag _) (.cells #[.int .i64 s1,.bool b1,.slice a1 n1 c1,.int .i64 s2,.bool b2,.slice a2 n2 c2] 157));have H1:=hid h1;have H2:=hid h2;have HE:=hid hE;have HN:=hid hn;clear h hE hn h1 h2
 go_enter Tryz.func168,Tryz.ntmps168
 go_wp2_with fail
 refine (hi _).mono ?_;rintro e w1 ⟨rfl,hb1⟩;have HR1:=hid ((hb1.block w.heap.size (by simp)).trans (heap_alloc_new w (.cells #[.int .i64 s1,.bool b1,.slice a1 n1 c1,.int .i64 s2,.bool b2,.slice a2 n2 c2] 157)));have HB1:=hid (HB0.out.trans (hb1.mono (by simp)));obtain ⟨y0,y1,y2,y3,y4,y5,-⟩:=Dozen.of HR1.out HR1.out;clear hb1 hi HB0;have hdb:decide (q.den=1)=true:=by simpa using hd
 have HT:=hid (ru hd);clear hd H2;have hs:=HN.out (.agg #[.int .i64 s1,.bool b1,.slice a1 n1 c1]) w1 (HE.out.far HB1.out) (H1.out.far HB1.out)
 go_wp2_with fail
 refine hs.mono ?_;rintro e w2 ⟨rfl,hb2⟩;have HB2:=hid (HB1.out.trans (hb2.mono HB1.out.size));clear hb2 hs
 go_wp2
 go_ret
 exact ⟨by rw[HT.out];rfl,HB2.out⟩
end
end Go.Proofs.YtapdbeaoakcjeaaGreatDoor
/- The reference's FromInt, at every int. -/
namespace Go.Proofs.YtapdbeaoakcjeaaGreatDoor
open Go.RowKit Nmx
def j8 (n m:Nat) (acc:List UInt8):Prop:=(m≠0∨acc=[]→aP m++acc=aP n)∧(m=0→acc≠[]→acc=aP n)
theorem nz (n:Nat):j8 n n []:=⟨fun _=>by simp,fun _ h=>absurd rfl h⟩
theorem js {n m:Nat} {acc:List UInt8} (h:j8 n m acc) (hm:m≠0∨acc=[]):j8 n (m / 10) (dg (m % 10)::acc):=by
 have h1:=h.1 hm;refine ⟨fun h2=>?_,fun h2 _=>?_⟩
 · have:m / 10≠0:=by rcases h2 with h2 | h2;exact h2;cases h2
   rw[←h1,eO (n:=m) (by omega)];simp
 · have h10:m<10:=by omega
   rw[←h1,bR h10,Nat.mod_eq_of_lt h10];rfl
theorem sO {n m:Nat} {acc:List UInt8} (h:j8 n m acc) (hn:n≤9223372036854775808):acc.length≤19:=by
 have:=dD (n:=n) (k:=19) (by omega) (by omega)
 by_cases hm:m≠0∨acc=[]
 · have:=congrArg List.length (h.1 hm);rw[aA] at this;omega
 · have:=h.2 (by omega) (by simp at hm;exact hm.2);rw[this];omega
theorem gW (w:World) (c:UInt8) (k:Int) (hk:k=c.toNat):Sem.run Tryz.prog (convert 79 9 (Value.slice (some { block:=w.heap.size,off:=0 }) 1 1)) (w.alloc (.cells #[.int .u8 k] 5))=.ok (.string ⟨#[c]⟩) (w.alloc (.cells #[.int .u8 k] 5)):=by
 subst hk;refine run_convert_bytes_back (P:=Tryz.prog) _ 79 9 5 ⟨w.heap.size,0,none⟩ 1 [c] Tryz.underlying79 Tryz.underlying5 Tryz.underlying9 ?_;intro j hj
 simp at hj
 subst hj;exact (World.news_of_block (cs:=#[.int .u8 (c.toNat:Int)]) (t:=5) (fr:=(0,0)) (heap_alloc_new w _)) 0 _ (by simp)
theorem eT (c:UInt8) (acc:List UInt8):(⟨#[c]⟩:ByteArray)++⟨acc.toArray⟩=⟨(c::acc).toArray⟩:=by
 apply ByteArray.ext;rw[ByteArray.data_append];apply Array.toList_inj.1
 simp
section
theorem lV (n:Nat) (w:World) (hn:n≤9223372036854775807):
    Calls Tryz.prog 20 #[.int .i64 ((n:Int))] w fun e w'=>e=.returned (.string ⟨(bN ((n:Int))).toArray⟩)∧Below w.heap.size w w':=by
 have HS:Hid (bN ((n:Int))=aP n):=hid (jj n)
 go_enter Tryz.func20,Tryz.ntmps20
 go_wp2
 generalize hb:w.heap.size=b at *;have HB:=hid hb;clear hb
 go_loopw [3,4] (fun sv v wr=>∃(m:Nat) (acc:List UInt8),m≤n∧v=.int .i64 ((m:Int))∧sv=.string ⟨acc.toArray⟩∧Below b w wr∧j8 n m acc)
  (fun sv v _=>(intOf v).natAbs+(match sv with | .string t=>if t.size=0 then 1 else 0 | _=>0))
 case atStart=>exact ⟨n,[],ag _,rfl,rfl,ah _ _,nz n⟩
 case round=>
  obtain ⟨m,acc,hm,rfl,rfl,hbel,hd⟩:=hrel;have hlen:=sO hd (by omega);have HW:=hid hbel;have HD:=hid hd;have hsz:=hbel.size;clear hbel hd;have HT1:Int.tmod ((m:Int)) 10=((m % 10:Nat):Int):=by rw[Int.tmod_eq_emod_of_nonneg (by omega)];rfl
  have HT2:Int.tdiv ((m:Int)) 10=((m / 10:Nat):Int):=by rw[Int.tdiv_eq_ediv_of_nonneg (by omega)];rfl
  have hd10:m % 10<10:=Nat.mod_lt _ (by omega)
  by_cases hm0:m=0
  · subst hm0
    by_cases ha:acc=[]
    · subst ha;have HN:=hid (js HD.out (.inr rfl));have hcv:=gW wr (dg 0) 48 (by decide)
      go_wp2
      refine ⟨⟨0,[dg 0],aE _,rfl,rfl,HW.out.alloc (by have:=HB.out;omega) _,?_⟩,?_⟩
      · exact HN.out
      · simp[intOf];decide
    · have HF:=hid (HD.out.2 rfl ha);have hne:acc.isEmpty=false:=by simpa using ha
      go_wp2
      go_ret
      exact ⟨bY (by rw[HS.out,HF.out]),by rw[HB.out];exact HW.out⟩
  · have hmb:(((m:Int)) !=0)=true:=by simp;omega
    have HN:=hid (js HD.out (.inl hm0));obtain ⟨r,hr⟩:∃r,m % 10=r:=⟨_,rfl⟩
    obtain ⟨q,hq⟩:∃q,m / 10=q:=⟨_,rfl⟩
    have hqm:q≤m:=by omega
    have hql:q<m:=by omega
    rw[hr] at HT1 hd10;rw[hq] at HT2;rw[hr,hq] at HN;have hcv:=gW wr (dg r) (48+(r:Int)) (by rw[bT hd10];omega);have hmr:(m:Int) % 10=(r:Int):=by omega
    have hmq:(m:Int) / 10=(q:Int):=by omega
    clear hr hq
    go_wp2
    refine ⟨⟨q,dg r::acc,by omega,by go_num,congrArg Value.string (eT _ _),HW.out.alloc (by have:=HB.out;omega) _,HN.out⟩,?_⟩;rw[eT]
    simp[intOf,ByteArray.size]
    omega
theorem lW (n:Nat) (w:World) (hn:n≤9223372036854775808) (hp:0<n):
    Calls Tryz.prog 20 #[.int .i64 (-(n:Int))] w fun e w'=>e=.returned (.string ⟨(bN (-(n:Int))).toArray⟩)∧Below w.heap.size w w':=by
 have HS:Hid (bN (-(n:Int))=45::aP n):=hid (pl n hp);have hlt: -(n:Int)<0:=by omega
 go_enter Tryz.func20,Tryz.ntmps20
 go_wp2
 generalize hb:w.heap.size=b at *;have HB:=hid hb;clear hb
 go_loopw [3,4] (fun sv v wr=>∃(m:Nat) (acc:List UInt8),m≤n∧v=.int .i64 (-(m:Int))∧sv=.string ⟨acc.toArray⟩∧Below b w wr∧j8 n m acc)
  (fun sv v _=>(intOf v).natAbs+(match sv with | .string t=>if t.size=0 then 1 else 0 | _=>0))
 case atStart=>exact ⟨n,[],ag _,rfl,rfl,ah _ _,nz n⟩
 case round=>
  obtain ⟨m,acc,hm,rfl,rfl,hbel,hd⟩:=hrel;have hlen:=sO hd (by omega);have HW:=hid hbel;have HD:=hid hd;have hsz:=hbel.size;clear hbel hd;have HT1:Int.tmod (-(m:Int)) 10= -((m % 10:Nat):Int):=by rw[Int.neg_tmod,Int.tmod_eq_emod_of_nonneg (by omega)];rfl
  have HT2:Int.tdiv (-(m:Int)) 10= -((m / 10:Nat):Int):=by rw[Int.neg_tdiv,Int.tdiv_eq_ediv_of_nonneg (by omega)];rfl
  have hd10:m % 10<10:=Nat.mod_lt _ (by omega)
  by_cases hm0:m=0
  · subst hm0
    by_cases ha:acc=[]
    · subst ha;have HN:=hid (js HD.out (.inr rfl));have hcv:=gW wr (dg 0) 48 (by decide)
      exfalso
      have h1:=HD.out.1 (.inr rfl);rw[List.append_nil] at h1;have:=je h1
      omega
    · have HF:=hid (HD.out.2 rfl ha);have hne:acc.isEmpty=false:=by simpa using ha
      go_wp2
      go_ret
      exact ⟨bY (by rw[HS.out,HF.out];exact eT 45 (aP n)),by rw[HB.out];exact HW.out⟩
  · have hmb:((-(m:Int)) !=0)=true:=by simp;omega
    have HN:=hid (js HD.out (.inl hm0));obtain ⟨r,hr⟩:∃r,m % 10=r:=⟨_,rfl⟩
    obtain ⟨q,hq⟩:∃q,m / 10=q:=⟨_,rfl⟩
    have hqm:q≤m:=by omega
    have hql:q<m:=by omega
    rw[hr] at HT1 hd10;rw[hq] at HT2;rw[hr,hq] at HN;have hcv:=gW wr (dg r) (48+(r:Int)) (by rw[bT hd10];omega);have hmr:(m:Int) % 10=(r:Int):=by omega
    have hmq:(m:Int) / 10=(q:Int):=by omega
    clear hr hq
    by_cases hr0:r=0
    · subst hr0;have hcv0:=gW wr (dg 0) 48 (by decide)
      go_wp2
      refine ⟨⟨q,dg 0::acc,by omega,rfl,congrArg Value.string (eT _ _),HW.out.alloc (by have:=HB.out;omega) _,HN.out⟩,?_⟩;rw[eT]
      simp[intOf,ByteArray.size]
      omega
    · have hrn: -(r:Int)<0:=by omega
      go_wp2
      refine ⟨⟨q,dg r::acc,by omega,rfl,congrArg Value.string (eT _ _),HW.out.alloc (by have:=HB.out;omega) _,HN.out⟩,?_⟩;rw[eT]
      simp[intOf,ByteArray.size]
      omega
theorem lX (z:Int) (w:World) (h1: -9223372036854775808≤z) (h2:z≤9223372036854775807):
    Calls Tryz.prog 20 #[.int .i64 z] w fun e w'=>e=.returned (.string ⟨(bN z).toArray⟩)∧Below w.heap.size w w':=by
 by_cases hz:z<0
 · have:=lW z.natAbs w (by omega) (by omega);rw[show -(z.natAbs:Int)=z by omega] at this;exact this
 · have:=lV z.natAbs w (by omega);rw[show (z.natAbs:Int)=z by omega] at this;exact this
end
end Go.Proofs.YtapdbeaoakcjeaaGreatDoor
namespace Nmx
structure ChR (N:Nat) (l c:List Nat):Prop where
 nl:dS l
 lt:∀x∈c,x<1000000000
 val:dq c+1000000000 ^ c.length*wv l=N
 last:l=[]→c≠[]∧c.getLastD 0≠0
theorem ChR.start {l:List Nat} (h:dS l) (h0:l≠[]):ChR (wv l) l []:=
 ⟨h,fun x hx=>absurd hx (by simp),by simp[dq],fun e=>absurd e h0⟩
theorem nA {l:List Nat} (h:dS l) (h0:l≠[]):0<wv l:=by
 rcases Nat.eq_zero_or_pos (wv l) with h1 | h1
 · exact absurd (tK l h h1) h0
 · exact h1
theorem ChR.step {N:Nat} {l c q:List Nat} {r:Nat} (h:ChR N l c) (h0:l≠[]) (hq:wv q=wv l / 1000000000) (hr:r=wv l % 1000000000) (hw:Ws q):ChR N (cJ q) (c++[r]):=by
 have hp:=nA h.nl h0;have hd:=Nat.mod_add_div (wv l) 1000000000
 constructor
 · exact lJ q hw
 · intro x hx;rw[List.mem_append,List.mem_singleton] at hx;rcases hx with hx | hx
   · exact h.lt x hx
   · rw[hx,hr];exact Nat.mod_lt _ (by omega)
 · rw[oe,fI,hq,aA,aK,Nat.pow_succ,Nat.mul_assoc,hr,Nat.add_assoc,←Nat.mul_add,hd];exact h.val
 · intro e;have:wv q=0:=by rw[←fI,e];rfl
   refine ⟨by simp,?_⟩
   simp
   omega
theorem ChR.few {N:Nat} {l c:List Nat} (h:ChR N l c) (h0:l≠[]) {L:Nat} (hN:N<BB ^ L):c.length<32*L:=by
 have hp:=nA h.nl h0;have h1:=h.val;have h2:1000000000 ^ c.length*1≤1000000000 ^ c.length*wv l:=Nat.mul_le_mul_left _ hp;have h3:2 ^ c.length≤1000000000 ^ c.length:=Nat.pow_le_pow_left (by omega) _;have h4:BB ^ L=2 ^ (32*L):=by rw[aW,Nat.pow_mul]
 rw[h4] at hN;exact (Nat.pow_lt_pow_iff_right (by omega:1<2)).1 (by omega)
theorem ChR.done {N:Nat} {c:List Nat} (h:ChR N [] c):ip c=aP N∧c≠[]:=by
 obtain ⟨h1,h2⟩:=h.last rfl;have h3:=h.val;rw[cZ,Nat.mul_zero,Nat.add_zero] at h3;rw[←h3];exact ⟨(ra c h1 h.lt h2).1,h1⟩
end Nmx
namespace Go.Proofs.YtapdbeaoakcjeaaGreatDoor
open Go.RowKit Nmx
theorem iD {w w1:World} {b:Nat} {t:TypeId} {sz:Nat} {v:Value} {n:Nat} {xs:List Value} (h:w.ownsRow b t sz v n xs) {B:Nat} (hb:Below B w w1) (hB:w.heap.size≤B):w1.ownsRow b t sz v n xs:=by
 obtain ⟨hx,h | ⟨g,cap,cur,hv,hg,hh,r⟩⟩:=h
 · exact ⟨hx,.inl h⟩
 · exact ⟨hx,.inr ⟨g,cap,cur,hv,hg,(hb.block g (by have:=ay hh;omega)).trans hh,r⟩⟩
theorem WS.news {w:World} {g off cap:Nat} {l:List Nat} (h:WS w (some ⟨g,off,none⟩) g off cap l):∀j u,(bZ l)[j]? =some u→w.cell? ((⟨g,off,none⟩:Addr).add j)=some u:=by
 intro j u hu;have hj:j<l.length:=by have:=(List.getElem?_eq_some_iff.1 hu).1;rwa [lQ] at this
 rw[lu l j hj] at hu;cases hu
 rw[Addr.add_lit];exact h.at_ j hj
theorem vA (l:List Nat):∀u∈bZ l,u.oneCell'=true:=by
 intro u hu;simp only[bZ,List.mem_map] at hu;obtain ⟨n,_,rfl⟩:=hu;rfl
def bcs (l:List UInt8):List Value:=l.map fun b=>Value.int .u8 (b.toNat:Int)
theorem infoU8:(Tryz.prog.info? 5).map (fun i=>(i.zero,i.size,i.bytes))=some (some (.int .u8 0),1,1):=by kernel_rfl
theorem sz_txt (l:List UInt8):(⟨l.toArray⟩:ByteArray).size=l.length:=by simp[ByteArray.size]
section
theorem dF {z:Int} (hz:Small z):nx z:=fun v w h hv=>by
 rw[gU hv hz];exact kS z w h hz
end
section
theorem lY (v:Value) (q:Rat) (w:World) (h:RV w v q) (hE:Env w) (hd:q.den≠1) (hsn:nx q.num) (hsd:nx q.den) (hsz:(bN q.num).length+(bN q.den).length≤1000000000):Calls Tryz.prog 168 #[v] w fun e w'=>e=.returned (.string ⟨(bE q).toArray⟩)∧Below w.heap.size w w':=by
 obtain ⟨s1,b1,a1,n1,c1,s2,b2,a2,n2,c2,rfl,h1,h2⟩:=cy h;have hi:=fun o=>gh (.agg #[.int .i64 s1,.bool b1,.slice a1 n1 c1,.int .i64 s2,.bool b2,.slice a2 n2 c2]) q (w.alloc o) (h.far ((ah _ _).alloc (ag _) o))
 have HB0:=hid ((ah w.heap.size w).alloc (ag _) (.cells #[.int .i64 s1,.bool b1,.slice a1 n1 c1,.int .i64 s2,.bool b2,.slice a2 n2 c2] 157));have hdd:fx q=q.den:=by unfold fx;rw[if_neg hd]
 rw[hdd] at h2;have hn:=fun W (hW:Below w.heap.size w W)=>hsn _ W (hE.far hW) (h1.far hW)
 have hm:=fun W (hW:Below w.heap.size w W)=>hsd _ W (hE.far hW) (h2.far hW)
 have HT:=hid (ny hd);have hdb:decide (q.den=1)=false:=by simpa using hd
 have hs1:(⟨(bN q.num).toArray⟩:ByteArray).size=(bN q.num).length:=sz_txt _;have hs2:(⟨(bN q.den).toArray⟩:ByteArray).size=(bN q.den).length:=sz_txt _
 have HS:Hid ((⟨(bN q.num).toArray⟩:ByteArray)++⟨#[47]⟩++⟨(bN q.den).toArray⟩=⟨(bE q).toArray⟩):=hid (by
  rw[ny hd];apply ByteArray.ext;rw[ByteArray.data_append,ByteArray.data_append];apply Array.toList_inj.1
  simp)
 rw[←hs1,←hs2] at hsz;generalize (⟨(bN q.num).toArray⟩:ByteArray)=t1 at *;generalize (⟨(bN q.den).toArray⟩:ByteArray)=t2 at *;have f1:¬(9223372036854775807≤t1.size):=by omega
 have f3:¬(9223372036854775807<t1.size+1):=by omega
 have f4:t1.size<9223372036854775807:=by omega
 have f2:¬(9223372036854775807<t1.size+1+t2.size):=by omega
 clear h hE h1 h2 hdd hs1 hs2 hsz hd hsn hsd
 go_enter Tryz.func168,Tryz.ntmps168
 go_wp2_with fail
 refine (hi _).mono ?_;rintro e w1 ⟨rfl,hb1⟩;have HR1:=hid ((hb1.block w.heap.size (by simp)).trans (heap_alloc_new w (.cells #[.int .i64 s1,.bool b1,.slice a1 n1 c1,.int .i64 s2,.bool b2,.slice a2 n2 c2] 157)));have HB1:=hid (HB0.out.trans (hb1.mono (by simp)));obtain ⟨y0,y1,y2,y3,y4,y5,-⟩:=Dozen.of HR1.out HR1.out;clear hb1 hi HB0;have hlt1:=ay HR1.out
 go_wp2
 go_region_held3 (fun w'=>w'.cell? ⟨w.heap.size,0,none⟩=some (.int .i64 s1)∧w'.cell? ⟨w.heap.size,1,none⟩=some (.bool b1)∧w'.cell? ⟨w.heap.size,2,none⟩=some (.slice a1 n1 c1)∧w'.cell? ⟨w.heap.size,3,none⟩=some (.int .i64 s2)∧w'.cell? ⟨w.heap.size,4,none⟩=some (.bool b2)∧w'.cell? ⟨w.heap.size,5,none⟩=some (.slice a2 n2 c2))
  (first | exact ⟨y0,y1,y2,y3,y4,y5⟩ | exact K1 | exact K2 | go_keep)
  (first
    | (go_at_call 208
       first
       | (with_reducible refine (hn _ HB1.out.drew).mono ?_
          rintro e w2 ⟨rfl,hb2⟩;have HB2:=hid (HB1.out.drew.trans (hb2.mono HB1.out.size))
          have K1:=yz (show Below w1.drew.heap.size w1.drew w2 from hb2) hlt1 ⟨y0,y1,y2,y3,y4,y5⟩)
       | (with_reducible refine (hm _ HB2.out).mono ?_
          rintro e w3 ⟨rfl,hb3⟩;have HB3:=hid (HB2.out.trans (hb3.mono HB2.out.size))
          have K2:=yz hb3 (ap hlt1 hb2.size) K1)))
 all_goals go_wp2
 all_goals go_ret
 all_goals exact ⟨bY HS.out,HB3.out⟩
theorem fy (v:Value) (q:Rat) (w:World) (h:RV w v q) (hE:Env w) (hsn:nx q.num) (hsd:nx q.den) (hsz:(bN q.num).length+(bN q.den).length≤1000000000):Calls Tryz.prog 168 #[v] w fun e w'=>e=.returned (.string ⟨(bE q).toArray⟩)∧Below w.heap.size w w':=by
 by_cases hd:q.den=1
 · exact mJ v q w h hE hsn hd
 · exact lY v q w h hE hd hsn hsd hsz
end
end Go.Proofs.YtapdbeaoakcjeaaGreatDoor
/- Rat.Add of package exact. -/
namespace Go.Proofs.YtapdbeaoakcjeaaGreatDoor
open Go.RowKit Nmx
theorem zy {k l:Nat} (h:k≤l):BB ^ k≤BB ^ l:=Nat.pow_le_pow_right bw h
theorem vB {z:Int} {k:Nat} (h:z.natAbs<BB ^ k) (hk:k≤1000):Fit z:=by
 obtain ⟨m,hm⟩:∃m,k+m=1000:=⟨1000-k,by omega⟩
 unfold Fit;rw[←hm];exact ap h (zy (Nat.le_add_right _ _))
theorem vC {q:Rat} (h:q.den=1):fx q=0:=by unfold fx;rw[if_pos h]
section
theorem oB (s:ByteArray) (w:World) (hs:s.size≤1000000) (h:Env w) (hg:pH s.data.toList):Calls Tryz.prog 75 #[.string s] w fun e w'=>e=.returned (.bool (bA s.data.toList).isSome)∧Below w.heap.size w w':=by
 have hp:=iC s w hs h hg;unfold ParsePost at hp;generalize bA s.data.toList=oq at *
 go_enter Tryz.func75,Tryz.ntmps75
 go_wp2_with fail
 refine hp.mono ?_;rintro e w1 ⟨v,rfl,hv,hb1⟩;obtain ⟨s1,b1,a1,n1,c1,s2,b2,a2,n2,c2,rfl,-,-⟩:=cy hv;have HB:=hid hb1;clear hv hp hb1
 go_wp2
 go_ret
 exact ⟨rfl,HB.out.alloc HB.out.size _⟩
end
end Go.Proofs.YtapdbeaoakcjeaaGreatDoor

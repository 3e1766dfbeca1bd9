import Derived.Test.YtpkfnnkbfphfbaaGreatDoorHGX
set_option maxRecDepth 100000
set_option maxHeartbeats 40000000
namespace Go.Proofs.YtpkfnnkbfphfbaaGreatDoor.Se
open Go.RowKit Nmx Go.Proofs.Tryz
def cmpI (a b:Int):Int:=if a<b then -1 else if b<a then 1 else 0
def hZ (a b:ByteArray):Int:=if Op.bytesLess a.toList b.toList then -1 else if a.toList==b.toList then 0 else 1
def bR:List Int→Int
 | []=>0
 | c::l=>if c=0 then bR l else c
def df (x y:Nd):Int:=bR [cmpI x.op y.op,cmpI x.sort y.sort,hZ x.name y.name,hZ x.num y.num,cmpI x.kids y.kids]
def dA:List Nd→List Nd→Int
 | [],[]=>0
 | [],_::_=>-1
 | _::_,[]=>1
 | x::a,y::b=>if df x y=0 then dA a b else df x y
theorem iV (a b:Int) (w:World):Calls prog 77 #[.int .i64 a,.int .i64 b] w fun e w'=>e=.returned (.int .i64 (cmpI a b))∧w'=w:=by
 by_cases h1:a<b
 · have HN:Hid (cmpI a b= -1):=Lib.hid (by unfold cmpI;rw[aF h1])
   go_enter func77,ntmps77
   go_wp2
   go_ret
   exact ⟨by rw[HN.out];rfl,rfl⟩
 · by_cases h2:b<a
   · have HN:Hid (cmpI a b=1):=Lib.hid (by unfold cmpI;rw[aB h1,aF h2])
     go_enter func77,ntmps77
     go_wp2
     go_ret
     exact ⟨by rw[HN.out];rfl,rfl⟩
   · have HN:Hid (cmpI a b=0):=Lib.hid (by unfold cmpI;rw[aB h1,aB h2])
     go_enter func77,ntmps77
     go_wp2
     go_ret
     exact ⟨by rw[HN.out];rfl,rfl⟩
theorem lC (a b:ByteArray) (w:World):Calls prog 78 #[.string a,.string b] w fun e w'=>e=.returned (.int .i64 (hZ a b))∧w'=w:=by
 cases h1:Op.bytesLess a.toList b.toList
 · cases h2:(a.toList==b.toList)
   · have HN:Hid (hZ a b=1):=Lib.hid (by unfold hZ;rw[h1,h2];rfl)
     go_enter func78,ntmps78
     go_wp2
     go_ret
     exact ⟨by rw[HN.out];rfl,rfl⟩
   · have HN:Hid (hZ a b=0):=Lib.hid (by unfold hZ;rw[h1,h2];rfl)
     go_enter func78,ntmps78
     go_wp2
     go_ret
     exact ⟨by rw[HN.out];rfl,rfl⟩
 · have HN:Hid (hZ a b= -1):=Lib.hid (by unfold hZ;rw[h1];rfl)
   go_enter func78,ntmps78
   go_wp2
   go_ret
   exact ⟨by rw[HN.out];rfl,rfl⟩
def NodesO (w:World) (ao:Option Addr) (ts:List Nd):Prop:=ts.length≠0→∃g off,ao=some ⟨g,off,none⟩∧g<w.heap.size∧∀i x,ts[i]? =some x→∀j,j<5→w.cell? ⟨g,off+i*5+j,none⟩=x.cells[j]?
theorem NodesO.below {w w':World} {B:Nat} {ao:Option Addr} {ts:List Nd} (h:NodesO w ao ts) (hb:Below B w w') (hB:w.heap.size≤B):NodesO w' ao ts:=fun hn=>
 let ⟨g,off,e,hl,hc⟩:=h hn;⟨g,off,e,aC hl hb.size,fun i x hx j hj=>(hb.cell (p:=⟨g,off+i*5+j,none⟩) (by show g<B;omega)).trans (hc i x hx j hj)⟩
theorem NodesAt.o {w:World} {g:Nat} {ts:List Nd} (h:NodesAt w g ts) (hg:g<w.heap.size):NodesO w (some ⟨g,0,none⟩) ts:=fun _=>⟨g,0,rfl,hg,fun i x hx j hj=>by rw[Nat.zero_add];exact h i x hx j hj⟩
structure CN (S g1 o1 g2 o2:Nat) (op1 sort1 kids1 op2 sort2 kids2:Int) (name1 num1 name2 num2:ByteArray) (w W:World):Prop where
 a0:W.cell? ⟨g1,o1,none⟩=some (.int .i64 op1)
 a1:W.cell? ⟨g1,o1+1,none⟩=some (.int .i64 sort1)
 a2:W.cell? ⟨g1,o1+2,none⟩=some (.string name1)
 a3:W.cell? ⟨g1,o1+3,none⟩=some (.string num1)
 a4:W.cell? ⟨g1,o1+4,none⟩=some (.int .i64 kids1)
 b0:W.cell? ⟨g2,o2,none⟩=some (.int .i64 op2)
 b1:W.cell? ⟨g2,o2+1,none⟩=some (.int .i64 sort2)
 b2:W.cell? ⟨g2,o2+2,none⟩=some (.string name2)
 b3:W.cell? ⟨g2,o2+3,none⟩=some (.string num2)
 b4:W.cell? ⟨g2,o2+4,none⟩=some (.int .i64 kids2)
 l1:g1<S
 l2:g2<S
 ls:S≤W.heap.size
 bel:Below S w W
theorem CN.keep {S g1 o1 g2 o2:Nat} {op1 sort1 kids1 op2 sort2 kids2:Int} {name1 num1 name2 num2:ByteArray} {w W W':World} (h:CN S g1 o1 g2 o2 op1 sort1 kids1 op2 sort2 kids2 name1 num1 name2 num2 w W) (hb:Below S W W'):CN S g1 o1 g2 o2 op1 sort1 kids1 op2 sort2 kids2 name1 num1 name2 num2 w W':=
 ⟨(hb.cell (p:=⟨g1,o1,none⟩) h.l1).trans h.a0,(hb.cell (p:=⟨g1,o1+1,none⟩) h.l1).trans h.a1,(hb.cell (p:=⟨g1,o1+2,none⟩) h.l1).trans h.a2,(hb.cell (p:=⟨g1,o1+3,none⟩) h.l1).trans h.a3,(hb.cell (p:=⟨g1,o1+4,none⟩) h.l1).trans h.a4,
  (hb.cell (p:=⟨g2,o2,none⟩) h.l2).trans h.b0,(hb.cell (p:=⟨g2,o2+1,none⟩) h.l2).trans h.b1,(hb.cell (p:=⟨g2,o2+2,none⟩) h.l2).trans h.b2,(hb.cell (p:=⟨g2,o2+3,none⟩) h.l2).trans h.b3,(hb.cell (p:=⟨g2,o2+4,none⟩) h.l2).trans h.b4,h.l1,h.l2,aP h.ls hb.size,h.bel.trans hb⟩
theorem jH {S B:Nat} {w W:World} (h:Below S w W) (hB:S≤B) (v0 v1 v2 v3 v4:Value):Below S w (((((W.setCell ⟨B,0,none⟩ v0).setCell ⟨B,1,none⟩ v1).setCell ⟨B,2,none⟩ v2).setCell ⟨B,3,none⟩ v3).setCell ⟨B,4,none⟩ v4):=
 ((((h.setCell (p:=⟨B,0,none⟩) hB _).setCell (p:=⟨B,1,none⟩) hB _).setCell (p:=⟨B,2,none⟩) hB _).setCell (p:=⟨B,3,none⟩) hB _).setCell (p:=⟨B,4,none⟩) hB _
theorem m6 {B B':Nat} {W:World} {ob:Obj} (h:W.heap[B']? =some ob) (hB:B'≠B) (v0 v1 v2 v3 v4:Value):(((((W.setCell ⟨B,0,none⟩ v0).setCell ⟨B,1,none⟩ v1).setCell ⟨B,2,none⟩ v2).setCell ⟨B,3,none⟩ v3).setCell ⟨B,4,none⟩ v4).heap[B']? =some ob:=by
 rw[aG _ _ _ _ hB,aG _ _ _ _ hB,aG _ _ _ _ hB,aG _ _ _ _ hB,aG _ _ _ _ hB];exact h
theorem li {B:Nat} {W:World} {u0 u1 u2 u3 u4:Value} {t:TypeId} {fr:Nat×Nat} (h:W.heap[B]? =some (.cells #[u0,u1,u2,u3,u4] t fr)) (v0 v1 v2 v3 v4:Value):(((((W.setCell ⟨B,0,none⟩ v0).setCell ⟨B,1,none⟩ v1).setCell ⟨B,2,none⟩ v2).setCell ⟨B,3,none⟩ v3).setCell ⟨B,4,none⟩ v4).heap[B]? =some (.cells #[v0,v1,v2,v3,v4] t fr):=
 heap_set (heap_set (heap_set (heap_set (heap_set h 0 v0) 1 v1) 2 v2) 3 v3) 4 v4
end Go.Proofs.YtpkfnnkbfphfbaaGreatDoor.Se

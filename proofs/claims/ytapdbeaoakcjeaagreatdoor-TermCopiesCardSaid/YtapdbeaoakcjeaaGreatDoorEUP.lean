/- Valid and SortOf, over what namesAgree answers. -/
import Derived.Test.YtapdbeaoakcjeaaGreatDoorEUK
import Derived.Test.YtapdbeaoakcjeaaGreatDoorEUI
import Derived.Laws.Rows
import Derived.Laws.ResultCell
set_option maxRecDepth 100000
set_option maxHeartbeats 40000000
open Go.Lib (hid)
namespace Go.Proofs.YtapdbeaoakcjeaaGreatDoor.Se
open Go.RowKit Nmx
def vdF (na:List Nat→List Int→Bool) (ts:List Nd):Bool:=match shp ts with | none=>false | some (E,S)=>na E S
def soF (na:List Nat→List Int→Bool) (ts:List Nd):Int:=match shp ts with | none=>0 | some (E,S)=>if na E S then S.getD 0 0 else 0
theorem wn {na:List Nat→List Int→Bool} {ts:List Nd} (h:vdF na ts=true):shp ts≠none:=fun e=>by
 unfold vdF at h;rw[e] at h;cases h
section
theorem qn {na:List Nat→List Int→Bool} {ao:Option Addr} {n cap:Nat} {ts:List Nd} {w:World}
    (h:Calls Tryz.prog 39 #[.slice ao n cap] w (ChkPost na ts w)):
    Calls Tryz.prog 13 #[.slice ao n cap] w fun e w'=>e=.returned (.bool (vdF na ts))∧Below w.heap.size w w':=by
 go_enter Tryz.func13,Tryz.ntmps13
 go_wp2_with fail
 refine h.mono ?_;rintro e w2 ⟨hb2,a1,a2,n1,c1,n2,c2,b,rfl,hm⟩;have HB:=hid hb2
 have HM:Hid (b=vdF na ts):=hid (by
  unfold vdF;cases hs:shp ts with
  | none=>rw[hs] at hm;exact hm
  | some x=>obtain ⟨E,S⟩:=x;rw[hs] at hm;exact hm.1)
 clear hb2 hm h
 go_wp2
 go_ret
 exact ⟨by rw[←HM.out];rfl,HB.out.alloc HB.out.size _⟩
theorem nM {na:List Nat→List Int→Bool} {ao:Option Addr} {n cap:Nat} {ts:List Nd} {w:World} (hn:ts≠[])
    (h:Calls Tryz.prog 39 #[.slice ao n cap] w (ChkPost na ts w)):
    Calls Tryz.prog 23 #[.slice ao n cap] w fun e w'=>e=.returned (.int .i64 (soF na ts))∧Below w.heap.size w w':=by
 have hn0:0<ts.length:=List.length_pos_iff.2 hn
 go_enter Tryz.func23,Tryz.ntmps23
 go_wp2_with fail
 refine h.mono ?_;rintro e w2 ⟨hb2,a1,a2,n1,c1,n2,c2,b,rfl,hm⟩;have HB:=hid hb2;cases hs:shp ts with
 | none=>
   rw[hs] at hm;obtain rfl:=hm;have HV:Hid (soF na ts=0):=hid (by unfold soF;rw[hs]);clear hb2 h hs
   go_wp2
   go_ret
   exact ⟨by rw[HV.out];rfl,HB.out.alloc HB.out.size _⟩
 | some x=>
   obtain ⟨E,S⟩:=x;rw[hs] at hm;obtain ⟨rfl,ge,gs,rfl,rfl,rfl,rfl,l1,l2,-,-,-,hS⟩:=hm;have HV:Hid (soF na ts=if na E S then S.getD 0 0 else 0):=hid (by unfold soF;rw[hs]);cases hna:na E S
   · have HV':Hid (soF na ts=0):=hid (by rw[HV.out,hna];rfl);clear hb2 h hs hS HV
     go_wp2
     go_ret
     exact ⟨by rw[HV'.out];rfl,HB.out.alloc HB.out.size _⟩
   · have c0:=hS 0 hn0;have HV':Hid (soF na ts=S.getD 0 0):=hid (by rw[HV.out,hna];rfl);clear HV;generalize ts.length=m at *;clear hb2 h hs hS;have f0:(w2.alloc (.cells #[.slice (some ⟨ge,0,none⟩) m c1,.slice (some ⟨gs,0,none⟩) m c2] 65)).cell? ⟨gs,0,none⟩=some (.int .i64 (S.getD 0 0)):=(((ah w2.heap.size w2).alloc (ag _) _).cell (p:=⟨gs,0,none⟩) l2).trans c0
     go_wp2
     go_ret
     exact ⟨by rw[HV'.out];rfl,HB.out.alloc HB.out.size _⟩
end
end Go.Proofs.YtapdbeaoakcjeaaGreatDoor.Se
/- Terms of one node. -/
namespace Go.Proofs.YtapdbeaoakcjeaaGreatDoor.Se
open Go.RowKit Nmx
def OneN (x:Nd) (w:World) (e:Ending) (w':World):Prop:=
 e=.returned (.slice (some ⟨w.heap.size,0,none⟩) 1 1)∧w'.heap[w.heap.size]? =some (.cells #[.int .i64 x.op,.int .i64 x.sort,.string x.name,.string x.num,.int .i64 x.kids] 34 (0,0))∧Below w.heap.size w w'
theorem OneN.new (x:Nd) (w:World):OneN x w (.returned (.slice (some ⟨w.heap.size,0,none⟩) 1 1)) (w.alloc (.cells #[.int .i64 x.op,.int .i64 x.sort,.string x.name,.string x.num,.int .i64 x.kids] 34)):=
 ⟨rfl,heap_alloc_new w _,(ah _ _).alloc (ag _) _⟩
theorem qo (s:ByteArray) (sort:Int) (w:World):Calls Tryz.prog 138 #[.string s,.int .i64 sort] w (OneN ⟨3,sort,⟨#[]⟩,s,0⟩ w):=by
 have HN:=hid (OneN.new ⟨3,sort,⟨#[]⟩,s,0⟩ w)
 go_enter Tryz.func138,Tryz.ntmps138
 go_wp2
 go_ret
 exact HN.out
theorem qp (s:ByteArray) (sort:Int) (w:World):Calls Tryz.prog 169 #[.string s,.int .i64 sort] w (OneN ⟨4,sort,s,⟨#[]⟩,0⟩ w):=by
 have HN:=hid (OneN.new ⟨4,sort,s,⟨#[]⟩,0⟩ w)
 go_enter Tryz.func169,Tryz.ntmps169
 go_wp2
 go_ret
 exact HN.out
end Go.Proofs.YtapdbeaoakcjeaaGreatDoor.Se
/- leaf. -/
namespace Go.Proofs.YtapdbeaoakcjeaaGreatDoor.Se
open Go.RowKit Nmx
def lsF (op sort:Int):Int:=if op=3∨op=4 then sort else 1
section
theorem kZ (op sort:Int) (g n cap:Nat) (w:World) (hop:op=1∨op=2∨op=3∨op=4) (hn:0<n) (c0:w.cell? ⟨g,0,none⟩=some (.int .i64 op)) (c1:w.cell? ⟨g,1,none⟩=some (.int .i64 sort)):
    Calls Tryz.prog 163 #[.slice (some ⟨g,0,none⟩) n cap] w fun e w'=>e=.returned (.int .i64 (lsF op sort))∧w'=w:=by
 rcases hop with rfl | rfl | rfl | rfl
 all_goals
  go_enter Tryz.func163,Tryz.ntmps163
  go_wp2
  go_ret
  exact ⟨rfl,rfl⟩
theorem qt (op sort:Int) (g n cap:Nat) (w:World) (hop:op=1∨op=2∨op=3∨op=4) (hn:0<n) (hg:g<w.heap.size) (c0:w.cell? ⟨g,0,none⟩=some (.int .i64 op)) (c1:w.cell? ⟨g,1,none⟩=some (.int .i64 sort)):
    Calls Tryz.prog 137 #[.slice (some ⟨g,0,none⟩) n cap] w fun e w'=>e=.returned (.agg #[.slice (some ⟨g,0,none⟩) n cap,.int .i64 1,.int .i64 (lsF op sort)])∧Below w.heap.size w w':=by
 have hb:Below w.heap.size w (w.alloc (.cells #[.slice none 0 0,.int .i64 0,.int .i64 0] 134)):=(ah _ _).alloc (ag _) _;have hw0:=heap_alloc_new w (.cells #[.slice none 0 0,.int .i64 0,.int .i64 0] 134);have hs:=kZ op sort g n cap _ hop hn ((hb.cell (p:=⟨g,0,none⟩) hg).trans c0) ((hb.cell (p:=⟨g,1,none⟩) hg).trans c1);have HB:=hid hb;clear hb c0 c1
 go_enter Tryz.func137,Tryz.ntmps137
 go_wp2_with fail
 generalize w.alloc (.cells #[.slice none 0 0,.int .i64 0,.int .i64 0] 134)=w1 at *;generalize hS:w.heap.size=S at *;have HS:=hid hS;clear hS;refine hs.mono ?_;rintro e w2 ⟨rfl,rfl⟩;have z0:=aM hw0 0;have z1:=aM hw0 1;have z2:=aM hw0 2;have d0:=ac hw0 0;have d1:=ac hw0 1;have d2:=ac hw0 2;have HW0:=hid hw0;clear hs hw0;generalize hso:lsF op sort=so at *;have HSO:=hid hso;clear hso
 go_wp2
 (try simp only[Exit.inBlock,Exit.then])
 have hw4:(((w2.setCell ⟨S,0,none⟩ (.slice (some ⟨g,0,none⟩) n cap)).setCell ⟨S,1,none⟩ (.int .i64 1)).setCell ⟨S,2,none⟩ (.int .i64 so)).heap[S]? =some (.cells #[.slice (some ⟨g,0,none⟩) n cap,.int .i64 1,.int .i64 so] 134 (0,0)):=
  heap_set (heap_set (heap_set HW0.out 0 (.slice (some ⟨g,0,none⟩) n cap)) 1 (.int .i64 1)) 2 (.int .i64 so)
 refine bodyPost_ret (v:=.agg #[.slice (some ⟨g,0,none⟩) n cap,.int .i64 1,.int .i64 so]) ?_ rfl ⟨by rw[HSO.out],by rw[HS.out];exact ((HB.out.setCell (show S≤S from ag _) _).setCell (show S≤S from ag _) _).setCell (show S≤S from ag _) _⟩;exact results_cell_row rfl _ _ S _ _ _ _ rfl hw4 Tryz.underlying134 rfl (by kernel_rfl)
end
end Go.Proofs.YtapdbeaoakcjeaaGreatDoor.Se
/- operatorNode at the operators of the sanity check. -/
namespace Go.Proofs.YtapdbeaoakcjeaaGreatDoor.Se
open Go.RowKit Nmx
theorem cO {fn:Func} {a b c:Tmp} (h:fn.results=#[.tmp a,.tmp b,.tmp c]) (tmps:Array Value) (P:Program) (w:World):
    (results fn tmps).run P w=.ok (.tuple #[tmps.getD a undef,tmps.getD b undef,tmps.getD c undef]) w:=by
 simp[results,h]
section
theorem k7 (w:World):Calls Tryz.prog 173 #[.string ⟨#[60,61]⟩] w fun e w'=>e=.returned (.tuple #[.int .i64 12,.int .i64 2,.int .i64 2])∧w'=w:=by
 go_enter Tryz.func173,Tryz.ntmps173
 go_wp2
 (try simp only[Exit.inBlock,Exit.then])
 refine bodyPost_ret (cO rfl _ _ _) rfl ⟨rfl,rfl⟩
theorem ko (w:World):Calls Tryz.prog 173 #[.string ⟨#[43]⟩] w fun e w'=>e=.returned (.tuple #[.int .i64 14,.int .i64 1,.int .i64 65536])∧w'=w:=by
 go_enter Tryz.func173,Tryz.ntmps173
 go_wp2
 (try simp only[Exit.inBlock,Exit.then])
 refine bodyPost_ret (cO rfl _ _ _) rfl ⟨rfl,rfl⟩
theorem kp (w:World):Calls Tryz.prog 173 #[.string ⟨#[42]⟩] w fun e w'=>e=.returned (.tuple #[.int .i64 15,.int .i64 2,.int .i64 2])∧w'=w:=by
 go_enter Tryz.func173,Tryz.ntmps173
 go_wp2
 (try simp only[Exit.inBlock,Exit.then])
 refine bodyPost_ret (cO rfl _ _ _) rfl ⟨rfl,rfl⟩
end
end Go.Proofs.YtapdbeaoakcjeaaGreatDoor.Se

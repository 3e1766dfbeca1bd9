/- WriteString; Format of a number. -/
import Derived.Test.YtapdbeaoakcjeaaGreatDoorEVJ
import Derived.Test.YtapdbeaoakcjeaaGreatDoorEShelf
set_option maxRecDepth 100000
set_option maxHeartbeats 40000000
open Go.Lib (hid)
namespace Go.Proofs.YtapdbeaoakcjeaaGreatDoor.Se
open Go.RowKit Nmx
section
theorem lc (B b:Nat) (bs:List Value) (s:ByteArray) (w:World) (h:Lib.IsBuilder 92 5 B b bs w) (hlen:bs.length+s.size≤140737488355328) (hBw:B≤w.heap.size):
    Calls Tryz.prog 104 #[.pointer (some ⟨b,0,none⟩),.string s] w fun e w'=>e=.returned (.tuple #[.int .i64 s.size,.nilIface])∧Lib.IsBuilder 92 5 B b (bs++Lib.strCells s) w'∧Below B w w':=by
 obtain ⟨i0,hi,hz0,hz1,hz2⟩:=info_parts qf
 go_enter Tryz.func104,Tryz.ntmps104
 go_wp2_with (go_at_call 143;refine (iL B b bs _ h).mono ?_)
 rintro e w1 ⟨rfl,h1,hb1⟩;obtain ⟨hB,v,hbk,hown,hne⟩:=h1;have c0:w1.cell? ⟨b,0,none⟩=some (.pointer (some ⟨b,0,none⟩)):=by rw[Lib.cell_of_heap hbk];rfl
 have c1:w1.cell? ⟨b,1,none⟩=some v:=by rw[Lib.cell_of_heap hbk];rfl
 have hlt:b<w1.heap.size:=by
  rcases Nat.lt_or_ge b w1.heap.size with h' | h'
  · exact h'
  · simp[Array.getElem?_eq_none h'] at hbk
 go_wp2_with (at_builtin;refine Lib.wpList_append_own_string _ rfl (.tmp 12) (.tmp 13) 79 9 rfl B 5 i0 Tryz.underlying79 Tryz.underlying9 hi hz0 hz1 hz2 _ _ _ rfl hown s rfl ?c3 ?c4 ?c5 ?_)
 case c3=>unfold maxLen;omega
 case c4=>omega
 case c5=>have:=hb1.size;omega
 intro v' w2 hown' hgrow _
 have hb2:w2.heap[b]? =some (.cells #[.pointer (some ⟨b,0,none⟩),v] 92 (0,0)):=by
  rw[hgrow.block b hlt (fun e=>hne e.symm)];exact hbk
 have d0:w2.cell? ⟨b,0,none⟩=some (.pointer (some ⟨b,0,none⟩)):=by rw[Lib.cell_of_heap hb2];rfl
 have d1:w2.cell? ⟨b,1,none⟩=some v:=by rw[Lib.cell_of_heap hb2];rfl
 have f1:w2.frozen? ⟨b,1,none⟩=false:=Lib.frozen_of_heap hb2 1;have hsl:(Lib.strCells s).length=s.size:=by unfold Lib.strCells;rw[List.length_map,de]
 have hb3:Below B w w2:=hb1.grown hgrow (by have:=hb1.size;omega) (fun k hk=>(hown.lt k hk).1);obtain ⟨a,cap,rfl⟩:=bL hown'
 go_wp2
 go_ret2
 refine ⟨rfl,.inr ?_,?_⟩
 · exact Lib.BuilderAt.put (T:=92) (e:=5) hB hb2 (bs':=bs++Lib.strCells s) (by rw[aA,hsl];exact hown') (by decide)
 · exact hb3.setCell (p:=⟨b,1,none⟩) hB _
theorem iQ {B b:Nat} {bs:List Value} {w w':World} (h:Lib.IsBuilder 92 5 B b bs w) (hb:Below w.heap.size w w'):Lib.IsBuilder 92 5 B b bs w':=by
 have key:∀p,Lib.BuilderAt 92 5 B b p bs w→Lib.BuilderAt 92 5 B b p bs w':=by
  rintro p ⟨h1,u,h2,h3,h4⟩;exact ⟨h1,u,(hb.block b (Array.getElem?_eq_some_iff.1 h2).1).trans h2,bl h3 hb (fun g hg=>(h3.lt g hg).2),h4⟩
 exact h.elim (fun x=>.inl (key _ x)) (fun x=>.inr (key _ x))
theorem gE {B b:Nat} {bs:List Value} {w:World} (h:Lib.IsBuilder 92 5 B b bs w):B≤b∧b<w.heap.size:=by
 rcases h with ⟨h1,u,h2,-⟩ | ⟨h1,u,h2,-⟩
 iterate 2
  · exact ⟨h1,(Array.getElem?_eq_some_iff.1 h2).1⟩
theorem uM {d:Nat} {q:Rat} (hq:DS d q) (hd:d≤6) (b g n c:Nat) (sort kids:Int) (name:ByteArray) (acc:List UInt8) (w:World) (hEn:Env w) (hB:Lib.IsBuilder 92 5 b b (Lib.byteCells acc) w) (hacc:acc.length≤1000000)
    (hn:0<n) (c0:w.cell? ⟨g,0,none⟩=some (.int .i64 3)) (c1:w.cell? ⟨g,1,none⟩=some (.int .i64 sort)) (c2:w.cell? ⟨g,2,none⟩=some (.string name)) (c3:w.cell? ⟨g,3,none⟩=some (.string (TX q))) (c4:w.cell? ⟨g,4,none⟩=some (.int .i64 kids)):
    Calls Tryz.prog 57 #[.pointer (some ⟨b,0,none⟩),.slice (some ⟨g,0,none⟩) n c,.int .i64 0] w fun e w'=>e=.returned (.int .i64 1)∧Lib.IsBuilder 92 5 b b (Lib.byteCells (acc++(fnT sort q).data.toList)) w'∧Below b w w':=by
 have hal:=aD w (.cells #[.int .i64 3,.int .i64 sort,.string name,.string (TX q),.int .i64 kids] 34);have hbl:=gE hB;have hbx:=heap_alloc_new w (.cells #[.int .i64 3,.int .i64 sort,.string name,.string (TX q),.int .i64 kids] 34);have HB1:=hid (iQ hB hal);have hfn:=mR hq hd 3 sort kids name _ (hEn.far hal);have HAL:=hid hal
 have hfl:(fnT sort q).size≤50000:=by
  unfold fnT
  split
  · have h1:=rQ hq.neg hd sort;simp only[ByteArray.size_append];rw[show (⟨#[40,45,32]⟩:ByteArray).size=3 from rfl,show (⟨#[41]⟩:ByteArray).size=1 from rfl];omega
  · have h1:=rQ hq hd sort
    omega
 clear hal hB hEn;generalize fnT sort q=ft at *;generalize TX q=tq at *
 go_enter Tryz.func57,Tryz.ntmps57
 go_wp2_with fail
 generalize hw1:w.alloc (.cells #[.int .i64 3,.int .i64 sort,.string name,.string tq,.int .i64 kids] 34)=w1 at *;refine hfn.mono ?_;rintro e w2 ⟨rfl,hb2⟩;have HB2:=hid (iQ HB1.out hb2);have hbw:Below b w w2:=(HAL.out.mono (aI hbl.2)).trans (hb2.mono (aC (aI hbl.2) HAL.out.size));have hbx2:=(hb2.block _ (ay hbx)).trans hbx;have hws:=lc b b (Lib.byteCells acc) ft w2 HB2.out (by rw[Lib.byteCells_length];omega) (aI (gE HB2.out).2);have HBW:=hid hbw;have e1:Lib.byteCells acc++Lib.strCells ft=Lib.byteCells (acc++ft.data.toList):=by rw[Lib.strCells_eq];unfold Lib.byteCells;rw[List.map_append]
 rw[e1] at hws;clear hfn hb2 hbw e1 HB1 HAL HB2 hbx hw1 c0 c1 c2 c3 c4
 go_wp2_with fail
 refine hws.mono ?_;rintro e w3 ⟨rfl,hB3,hb3⟩;have HB3:=hid hB3;have HBW3:=hid (HBW.out.trans hb3);clear hws hB3 hb3
 go_wp2
 go_ret
 exact ⟨rfl,HB3.out,HBW3.out⟩
end
end Go.Proofs.YtapdbeaoakcjeaaGreatDoor.Se
/- check without functions; Format of a number; the sanity check. -/
namespace Go.Proofs.YtapdbeaoakcjeaaGreatDoor.Se
open Go.RowKit Nmx
section
theorem qA (g cap:Nat) (ts:List Nd) (w:World) (hl:ts.length≤20000) (hg:g<w.heap.size) (hc:NodesAt w g ts) (hsm:∀x∈ts,x.num.size≤1000) (hEn:Env w) (hno:∀x∈ts,¬x.op=5) (hvd:vdF (naF ts) ts=true):
    Calls Tryz.prog 39 #[.slice (some ⟨g,0,none⟩) ts.length cap] w (ChkPost (naF ts) ts w):=
 sX (naF ts) (some ⟨g,0,none⟩) g cap ts w (fun _=>rfl) hg hc hsm hEn (wn hvd) fun W E Ss ge gs ce cs hN hgW _ _ _ _ _ _=>k8 (some ⟨g,0,none⟩) (some ⟨ge,0,none⟩) (some ⟨gs,0,none⟩) g cap ts.length ce ts.length cs ts E Ss W (fun _=>rfl) hgW hN hl hno
theorem rX {d:Nat} {q:Rat} (hq:DS d q) (hd:d≤6) (sort:Int) (hv:vdF (naF [⟨3,sort,⟨#[]⟩,TX q,0⟩]) [⟨3,sort,⟨#[]⟩,TX q,0⟩]=true) (g c:Nat) (w:World) (hEn:Env w) (hg:g<w.heap.size) (hc:NodesAt w g [⟨3,sort,⟨#[]⟩,TX q,0⟩]):
    Calls Tryz.prog 24 #[.slice (some ⟨g,0,none⟩) 1 c] w fun e w'=>e=.returned (.string (fnT sort q))∧Below w.heap.size w w':=by
 have hval:=qn (qA g c [⟨3,sort,⟨#[]⟩,TX q,0⟩] w (show (1:Nat)≤20000 by decide) hg hc (by
  intro x hx;obtain rfl:=List.mem_singleton.1 hx;show (TX q).size≤1000;have:=hq.len;show (⟨(bE q).toArray⟩:ByteArray).size≤1000
  rw[ByteArray.size];simp;omega) hEn (by intro x hx;obtain rfl:=List.mem_singleton.1 hx;show ¬(3:Int)=5;decide) hv)
 rw[hv] at hval;have HC:=hid hc;have HEn:=hid hEn;clear hc hEn hv;simp only[au,aH,Nat.zero_add] at hval
 go_enter Tryz.func24,Tryz.ntmps24
 go_wp2_with fail
 refine hval.mono ?_;rintro e w2 ⟨rfl,hb2⟩;have hal:=aD w2 (.cells #[.pointer none,.slice none 0 0] 92);have hbw:=kJ w2;have hb3:=hb2.trans (hal.mono hb2.size);have hN3:=HC.out.below hb3 hg;have cc:=fun j hj=>hN3 0 _ (show [(⟨3,sort,⟨#[]⟩,TX q,0⟩:Nd)][0]? =some ⟨3,sort,⟨#[]⟩,TX q,0⟩ from rfl) j hj
 have hwr:=uM hq (by omega) w2.heap.size g 1 c sort 0 ⟨#[]⟩ [] _ (HEn.out.far hb3) hbw (by decide) (by decide) (cc 0 (by omega)) (cc 1 (by omega)) (cc 2 (by omega)) (cc 3 (by omega)) (cc 4 (by omega));have HB3:=hid hb3;have HS2:Hid (w.heap.size≤w2.heap.size):=hid hb2.size;rw[List.nil_append] at hwr;clear hval hb2 hal hbw hb3 hN3 cc;obtain ⟨ft,hft⟩:∃ft,fnT sort q=ft:=⟨_,rfl⟩
 rw[hft] at hwr;have HFT:=hid hft;clear hft
 go_wp2_with fail
 generalize hw3:w2.alloc (.cells #[.pointer none,.slice none 0 0] 92)=w3 at *;refine hwr.mono ?_;rintro e w4 ⟨rfl,hB4,hb4⟩;have HB4:=hid (HB3.out.trans (hb4.mono HS2.out));have hst:=Tryz.Builder_String_any w2.heap.size w2.heap.size ft.data.toList w4 hB4 (aI (gE hB4).2);have HS4:Hid (w2.heap.size≤w4.heap.size):=hid (aI (gE hB4).2);clear hwr hB4 hb4 hw3
 go_wp2_with fail
 refine hst.mono ?_;rintro e w5 ⟨rfl,hb5⟩;have HB5:=hid (HB4.out.trans (hb5.mono HS2.out));clear hst hb5
 go_wp2
 go_ret
 exact ⟨by rw[HFT.out];rfl,HB5.out⟩
end
def q34:Rat:=⟨-3,4,by decide,by decide⟩
theorem Ae:TX q34=⟨#[45,51,47,52]⟩:=by kernel_rfl
theorem Af:fnT 3 q34=⟨#[40,45,32,40,47,32,51,46,48,32,52,46,48,41,41]⟩:=by kernel_rfl
theorem Ag:DS 1 q34:=⟨by decide,by decide⟩
theorem Ah:vdF (naF [⟨3,3,⟨#[]⟩,TX q34,0⟩]) [⟨3,3,⟨#[]⟩,TX q34,0⟩]=true:=by kernel_rfl
theorem zM:soF (naF qz) qz=1:=by kernel_rfl
end Go.Proofs.YtapdbeaoakcjeaaGreatDoor.Se
/- The sanity check of layer 3. -/
namespace Go.Proofs.YtapdbeaoakcjeaaGreatDoor.Se
open Go.RowKit Nmx
theorem sY {w:World} {g:Nat} (h:w.heap[g]? =some (.cells #[.string ⟨#[120]⟩,.int .i64 2,.string ⟨#[121]⟩,.int .i64 2] 46 (0,0))):VarsAt w g xy:=by
 intro j p hp
 match j,hp with
 | 0,hp=>obtain rfl:=aG hp;exact ⟨ac h 0,ac h 1⟩
 | 1,hp=>obtain rfl:=aG hp;exact ⟨ac h 2,ac h 3⟩
theorem yH:∀q∈xy,bH q.1.toList=true∧1≤q.2∧q.2≤4:=by decide+kernel
theorem zh:∀x∈mA,x.text.size<4294967281:=by decide+kernel
theorem zi:∀x∈i6,x.text.size<4294967281:=by decide+kernel
section
theorem qB (g c:Nat) (w:World) (hEn:Env w) (hg:g<w.heap.size) (hv:VarsAt w g xy):
    Calls Tryz.prog 22 #[.string ⟨#[40,60,61,32,40,43,32,120,32,49,41,32,121,41]⟩,.slice (some ⟨g,0,none⟩) 2 c,.slice none 0 0] w fun e w'=>∃g' c',e=.returned (.tuple #[.slice (some ⟨g',0,none⟩) 5 c',.int .i64 0,.int .i64 0])∧NodesAt w' g' qz∧g'<w'.heap.size∧Below w.heap.size w w':=
 wH qz 3 1 yE 7 g c (some ⟨g,0,none⟩) mA [7,2,6,4,5,6,7] xy w hEn wF (by decide) (by decide) rfl wI (by decide+kernel) zh (fun _=>rfl) hg (by decide) hv yH (fun R V F gi ci ge ce W _ hr=>by rw[wK] at hr;exact zL hr) (by decide)
theorem oW (g c:Nat) (w:World) (hEn:Env w) (hg:g<w.heap.size) (hv:VarsAt w g xy):
    Calls Tryz.prog 22 #[.string ⟨#[40,42,32,120,32,121,41]⟩,.slice (some ⟨g,0,none⟩) 2 c,.slice none 0 0] w fun e w'=>e=.returned (.tuple #[.slice none 0 0,.int .i64 0,.int .i64 8])∧Below w.heap.size w w':=
 rW 0 8 0 wE 4 g c (some ⟨g,0,none⟩) i6 [4,2,3,4] xy w hEn uK (by decide) (by decide) rfl wJ (by decide+kernel) zi (fun _=>rfl) hg (by decide) hv yH (fun R V F gi ci ge ce W _ hr=>by rw[wK] at hr;exact zg hr) (by decide) rfl (by decide) (by decide)
theorem wL (w:World) (hEn:Env w):Calls Tryz.prog 7 #[] w fun e w'=>e=.returned (.bool true)∧Below w.heap.size w w':=by
 have hal:=aD w (.cells #[.string ⟨#[120]⟩,.int .i64 2,.string ⟨#[121]⟩,.int .i64 2] 46);have hbx:=heap_alloc_new w (.cells #[.string ⟨#[120]⟩,.int .i64 2,.string ⟨#[121]⟩,.int .i64 2] 46);have HBX:=hid hbx;have HAL:=hid hal;have hp1:=qB w.heap.size 2 _ (hEn.far hal) (ay hbx) (sY hbx);have HEN:=hid hEn;clear hal hbx hEn
 go_enter Tryz.func7,Tryz.ntmps7
 go_wp2_with fail
 generalize hw1:w.alloc (.cells #[.string ⟨#[120]⟩,.int .i64 2,.string ⟨#[121]⟩,.int .i64 2] 46)=w1 at *;refine hp1.mono ?_;rintro e w2 ⟨g,c,rfl,hN,hg,hb2⟩;have HB2:=hid (HAL.out.trans (hb2.mono HAL.out.size));have hbx:=(hb2.block _ (ay HBX.out)).trans HBX.out;have hp2:=oW w.heap.size 2 w2 (HEN.out.far HB2.out) (ay hbx) (sY hbx);have HN:=hid hN;clear hp1 hb2 hbx hN hw1 HBX HAL
 go_wp2_with fail
 refine hp2.mono ?_;rintro e w3 ⟨rfl,hb3⟩;have HB3:=hid (HB2.out.trans (hb3.mono HB2.out.size));have hN3:=HN.out.below hb3 hg;have hg3:=ap hg hb3.size;have c0:w3.cell? ⟨g,0,none⟩=some (.int .i64 12):=hN3 0 _ (show qz[0]? =some ⟨12,0,⟨#[]⟩,⟨#[]⟩,2⟩ from rfl) 0 (by omega);have hso:=nM (by decide) (qA g c qz w3 (by decide) hg3 hN3 (by decide+kernel) (HEN.out.far HB3.out) (by decide+kernel) (by kernel_rfl));rw[zM,show qz.length=5 from rfl] at hso;clear hp2 hb3 hN3 hg HB2 HN
 go_wp2_with fail
 refine hso.mono ?_;rintro e w4 ⟨rfl,hb4⟩;have HB4:=hid (HB3.out.trans (hb4.mono HB3.out.size));have hal:=aD w4 (.cells #[.int .i64 3,.int .i64 3,.string ⟨#[]⟩,.string ⟨#[45,51,47,52]⟩,.int .i64 0] 34);have hnd:=heap_alloc_new w4 (.cells #[.int .i64 3,.int .i64 3,.string ⟨#[]⟩,.string ⟨#[45,51,47,52]⟩,.int .i64 0] 34);have HB5:=hid (HB4.out.trans (hal.mono HB4.out.size));have hfo:=rX Ag (by decide) 3 Ah w4.heap.size 1 _ (HEN.out.far HB5.out) (ay hnd) (kr (x:=⟨3,3,⟨#[]⟩,TX q34,0⟩) (by rw[Ae];exact hnd));rw[Af] at hfo;clear hso hb4 hal hnd c0 HB3 HB4
 go_wp2_with fail
 generalize hw5:w4.alloc (.cells #[.int .i64 3,.int .i64 3,.string ⟨#[]⟩,.string ⟨#[45,51,47,52]⟩,.int .i64 0] 34)=w5 at *;refine hfo.mono ?_;rintro e w6 ⟨rfl,hb6⟩;have HB6:=hid (HB5.out.trans (hb6.mono HB5.out.size));clear hfo hb6 hw5
 go_wp2
 go_ret
 exact ⟨rfl,HB6.out⟩
end
end Go.Proofs.YtapdbeaoakcjeaaGreatDoor.Se

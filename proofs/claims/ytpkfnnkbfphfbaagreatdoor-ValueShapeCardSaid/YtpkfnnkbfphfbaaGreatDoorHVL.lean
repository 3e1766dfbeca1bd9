import Derived.Test.YtpkfnnkbfphfbaaGreatDoorHEB
set_option maxRecDepth 100000
set_option maxHeartbeats 40000000
open Go.Lib (hid)
namespace Go.Proofs.YtpkfnnkbfphfbaaGreatDoor.Se
open Go.RowKit Nmx Go.Proofs.Tryz
def VarsAt (w:World) (g:Nat) (l:List (ByteArray×Int)):Prop:=∀j p,l[j]? =some p→w.cell? ⟨g,j*2,none⟩=some (.string p.1)∧w.cell? ⟨g,j*2+1,none⟩=some (.int .i64 p.2)
theorem grown_trans {w w1 w2:World} {V:Nat} (h1:w.grownBy w1 (some V)) (h2:w1.grownBy w2 (some V)):w.grownBy w2 (some V):=
 ⟨h2.os.trans h1.os,h2.tape.trans h1.tape,h2.output.trans h1.output,aP h1.size h2.size,fun k hk hne=>(h2.block k (aC hk h1.size) hne).trans (h1.block k hk hne)⟩
def xy:List (ByteArray×Int):=[(⟨#[120]⟩,2),(⟨#[121]⟩,2)]
theorem eV (B b:Nat) (bs:List Value) (s:ByteArray) (w:World) (h:Lib.IsBuilder 120 5 B b bs w) (hlen:bs.length+s.size≤140737488355328) (hBw:B≤w.heap.size):
    Calls prog 117 #[.pointer (some ⟨b,0,none⟩),.string s] w fun e w'=>e=.returned (.tuple #[.int .i64 s.size,.nilIface])∧Lib.IsBuilder 120 5 B b (bs++Lib.strCells s) w'∧Below B w w':=by
 obtain ⟨i0,hi,hz0,hz1,hz2⟩:=info_parts mT
 go_enter func117,ntmps117
 go_wp2_with (go_at_call 165;refine (nE B b bs _ h).mono ?_)
 rintro e w1 ⟨rfl,h1,hb1⟩;obtain ⟨hB,v,hbk,hown,hne⟩:=h1;have c0:w1.cell? ⟨b,0,none⟩=some (.pointer (some ⟨b,0,none⟩)):=by rw[Lib.cell_of_heap hbk];rfl
 have c1:w1.cell? ⟨b,1,none⟩=some v:=by rw[Lib.cell_of_heap hbk];rfl
 have hlt:b<w1.heap.size:=by
  rcases Nat.lt_or_ge b w1.heap.size with h' | h'
  · exact h'
  · simp[Array.getElem?_eq_none h'] at hbk
 go_wp2_with (at_builtin;refine Lib.wpList_append_own_string _ rfl (.tmp 12) (.tmp 13) 99 9 rfl B 5 i0 underlying99 underlying9 hi hz0 hz1 hz2 _ _ _ rfl hown s rfl ?c3 ?c4 ?c5 ?_)
 case c3=>unfold maxLen;omega
 case c4=>omega
 case c5=>have:=hb1.size;omega
 intro v' w2 hown' hgrow _
 have hb2:w2.heap[b]? =some (.cells #[.pointer (some ⟨b,0,none⟩),v] 120 (0,0)):=by
  rw[hgrow.block b hlt (fun e=>hne e.symm)];exact hbk
 have d0:w2.cell? ⟨b,0,none⟩=some (.pointer (some ⟨b,0,none⟩)):=by rw[Lib.cell_of_heap hb2];rfl
 have d1:w2.cell? ⟨b,1,none⟩=some v:=by rw[Lib.cell_of_heap hb2];rfl
 have f1:w2.frozen? ⟨b,1,none⟩=false:=Lib.frozen_of_heap hb2 1;have hsl:(Lib.strCells s).length=s.size:=by unfold Lib.strCells;rw[List.length_map,rD]
 have hb3:Below B w w2:=hb1.grown hgrow (by have:=hb1.size;omega) (fun k hk=>(hown.lt k hk).1);obtain ⟨a,cap,rfl⟩:=cR hown'
 go_wp2
 go_ret2
 refine ⟨rfl,.inr ?_,?_⟩
 · exact Lib.BuilderAt.put (T:=120) (e:=5) hB hb2 (bs':=bs++Lib.strCells s) (by rw[aE,hsl];exact hown') (by decide)
 · exact hb3.setCell (p:=⟨b,1,none⟩) hB _
theorem cS {B b:Nat} {bs:List Value} {w w':World} (h:Lib.IsBuilder 120 5 B b bs w) (hb:Below w.heap.size w w'):Lib.IsBuilder 120 5 B b bs w':=by
 have key:∀p,Lib.BuilderAt 120 5 B b p bs w→Lib.BuilderAt 120 5 B b p bs w':=by
  rintro p ⟨h1,u,h2,h3,h4⟩;exact ⟨h1,u,(hb.block b (Array.getElem?_eq_some_iff.1 h2).1).trans h2,eF h3 hb (fun g hg=>(h3.lt g hg).2),h4⟩
 exact h.elim (fun x=>.inl (key _ x)) (fun x=>.inr (key _ x))
theorem bO {B b:Nat} {bs:List Value} {w:World} (h:Lib.IsBuilder 120 5 B b bs w):B≤b∧b<w.heap.size:=by
 rcases h with ⟨h1,u,h2,-⟩ | ⟨h1,u,h2,-⟩
 iterate 2
  · exact ⟨h1,(Array.getElem?_eq_some_iff.1 h2).1⟩
theorem wh {d:Nat} {q:Rat} (hq:DS d q) (hd:d≤2000) (b g n c:Nat) (sort kids:Int) (name:ByteArray) (acc:List UInt8) (w:World) (hEn:Env w) (hB:Lib.IsBuilder 120 5 b b (Lib.byteCells acc) w) (hacc:acc.length≤1000000)
    (hn:0<n) (c0:w.cell? ⟨g,0,none⟩=some (.int .i64 3)) (c1:w.cell? ⟨g,1,none⟩=some (.int .i64 sort)) (c2:w.cell? ⟨g,2,none⟩=some (.string name)) (c3:w.cell? ⟨g,3,none⟩=some (.string (TX q))) (c4:w.cell? ⟨g,4,none⟩=some (.int .i64 kids)):
    Calls prog 79 #[.pointer (some ⟨b,0,none⟩),.slice (some ⟨g,0,none⟩) n c,.int .i64 0] w fun e w'=>e=.returned (.int .i64 1)∧Lib.IsBuilder 120 5 b b (Lib.byteCells (acc++(fnT sort q).data.toList)) w'∧Below b w w':=by
 have hal:=aO w (.cells #[.int .i64 3,.int .i64 sort,.string name,.string (TX q),.int .i64 kids] 57);have hbl:=bO hB;have hbx:=aq w (.cells #[.int .i64 3,.int .i64 sort,.string name,.string (TX q),.int .i64 kids] 57);have HB1:=hid (cS hB hal);have hfn:=jt hq hd 3 sort kids name _ (hEn.far hal);have HAL:=hid hal
 have hfl:(fnT sort q).size≤50000:=by
  unfold fnT
  split
  · have h1:=lf hq.neg hd sort;simp only[ByteArray.size_append];rw[show (⟨#[40,45,32]⟩:ByteArray).size=3 from rfl,show (⟨#[41]⟩:ByteArray).size=1 from rfl];omega
  · have h1:=lf hq hd sort
    omega
 clear hal hB hEn;generalize fnT sort q=ft at *;generalize TX q=tq at *
 go_enter func79,ntmps79
 go_wp2_with fail
 generalize hw1:w.alloc (.cells #[.int .i64 3,.int .i64 sort,.string name,.string tq,.int .i64 kids] 57)=w1 at *;refine hfn.mono ?_;rintro e w2 ⟨rfl,hb2⟩;have HB2:=hid (cS HB1.out hb2);have hbw:Below b w w2:=(HAL.out.mono (aL hbl.2)).trans (hb2.mono (aP (aL hbl.2) HAL.out.size));have hbx2:=(hb2.block _ (ar hbx)).trans hbx;have hws:=eV b b (Lib.byteCells acc) ft w2 HB2.out (by rw[Lib.byteCells_length];omega) (aL (bO HB2.out).2);have HBW:=hid hbw;have e1:Lib.byteCells acc++Lib.strCells ft=Lib.byteCells (acc++ft.data.toList):=by rw[Lib.strCells_eq];unfold Lib.byteCells;rw[List.map_append]
 rw[e1] at hws;clear hfn hb2 hbw e1 HB1 HAL HB2 hbx hw1 c0 c1 c2 c3 c4
 go_wp2_with fail
 refine hws.mono ?_;rintro e w3 ⟨rfl,hB3,hb3⟩;have HB3:=hid hB3;have HBW3:=hid (HBW.out.trans hb3);clear hws hB3 hb3
 go_wp2
 go_ret
 exact ⟨rfl,HB3.out,HBW3.out⟩
theorem iT (g cap:Nat) (ts:List Nd) (w:World) (hl:ts.length≤20000) (hg:g<w.heap.size) (hc:NodesAt w g ts) (hsm:∀x∈ts,x.num.size≤1000) (hEn:Env w) (hno:∀x∈ts,¬x.op=5) (hvd:vdF (naF ts) ts=true):
    Calls prog 75 #[.slice (some ⟨g,0,none⟩) ts.length cap] w (ChkPost (naF ts) ts w):=
 zO (naF ts) (some ⟨g,0,none⟩) g cap ts w (fun _=>rfl) hg hc hsm hEn (A1 hvd) fun W E Ss ge gs ce cs hN hgW _ _ _ _ _ _=>lI (some ⟨g,0,none⟩) (some ⟨ge,0,none⟩) (some ⟨gs,0,none⟩) g cap ts.length ce ts.length cs ts E Ss W (fun _=>rfl) hgW hN hl hno
theorem tU {d:Nat} {q:Rat} (hq:DS d q) (hd:d≤490) (sort:Int) (hv:vdF (naF [⟨3,sort,⟨#[]⟩,TX q,0⟩]) [⟨3,sort,⟨#[]⟩,TX q,0⟩]=true) (g c:Nat) (w:World) (hEn:Env w) (hg:g<w.heap.size) (hc:NodesAt w g [⟨3,sort,⟨#[]⟩,TX q,0⟩]):
    Calls prog 54 #[.slice (some ⟨g,0,none⟩) 1 c] w fun e w'=>e=.returned (.string (fnT sort q))∧Below w.heap.size w w':=by
 have hval:=iR (iT g c [⟨3,sort,⟨#[]⟩,TX q,0⟩] w (show (1:Nat)≤20000 by decide) hg hc (by
  intro x hx;obtain rfl:=List.mem_singleton.1 hx;show (TX q).size≤1000;have:=hq.len;show (⟨(bB q).toArray⟩:ByteArray).size≤1000
  rw[ByteArray.size];simp;omega) hEn (by intro x hx;obtain rfl:=List.mem_singleton.1 hx;show ¬(3:Int)=5;decide) hv)
 rw[hv] at hval;have HC:=hid hc;have HEn:=hid hEn;clear hc hEn hv;simp only[aw,aN,Nat.zero_add] at hval
 go_enter func54,ntmps54
 go_wp2_with fail
 refine hval.mono ?_;rintro e w2 ⟨rfl,hb2⟩;have hal:=aO w2 (.cells #[.pointer none,.slice none 0 0] 120);have hbw:=iK w2;have hb3:=hb2.trans (hal.mono hb2.size);have hN3:=HC.out.below hb3 hg;have cc:=fun j hj=>hN3 0 _ (show [(⟨3,sort,⟨#[]⟩,TX q,0⟩:Nd)][0]? =some ⟨3,sort,⟨#[]⟩,TX q,0⟩ from rfl) j hj
 have hwr:=wh hq (by omega) w2.heap.size g 1 c sort 0 ⟨#[]⟩ [] _ (HEn.out.far hb3) hbw (by decide) (by decide) (cc 0 (by omega)) (cc 1 (by omega)) (cc 2 (by omega)) (cc 3 (by omega)) (cc 4 (by omega));have HB3:=hid hb3;have HS2:Hid (w.heap.size≤w2.heap.size):=hid hb2.size;rw[List.nil_append] at hwr;clear hval hb2 hal hbw hb3 hN3 cc;obtain ⟨ft,hft⟩:∃ft,fnT sort q=ft:=⟨_,rfl⟩
 rw[hft] at hwr;have HFT:=hid hft;clear hft
 go_wp2_with fail
 generalize hw3:w2.alloc (.cells #[.pointer none,.slice none 0 0] 120)=w3 at *;refine hwr.mono ?_;rintro e w4 ⟨rfl,hB4,hb4⟩;have HB4:=hid (HB3.out.trans (hb4.mono HS2.out));have hst:=Tryz.Builder_String_any w2.heap.size w2.heap.size ft.data.toList w4 hB4 (aL (bO hB4).2);have HS4:Hid (w2.heap.size≤w4.heap.size):=hid (aL (bO hB4).2);clear hwr hB4 hb4 hw3
 go_wp2_with fail
 refine hst.mono ?_;rintro e w5 ⟨rfl,hb5⟩;have HB5:=hid (HB4.out.trans (hb5.mono HS2.out));clear hst hb5
 go_wp2
 go_ret
 exact ⟨by rw[HFT.out];rfl,HB5.out⟩
end Go.Proofs.YtpkfnnkbfphfbaaGreatDoor.Se

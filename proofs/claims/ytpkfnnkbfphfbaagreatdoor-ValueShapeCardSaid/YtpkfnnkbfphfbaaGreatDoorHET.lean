import Derived.Test.YtpkfnnkbfphfbaaGreatDoorHEQ
set_option maxRecDepth 100000
set_option maxHeartbeats 40000000
open Go.Lib (hid)
namespace Go.Proofs.YtpkfnnkbfphfbaaGreatDoor.Se
open Go.RowKit Nmx Go.Proofs.Tryz
def KeepN (w w':World):Prop:=∀(k:Nat) (cs:Array Value),w.heap[k]? =some (.cells cs 57 (0,0))→w'.heap[k]? =some (.cells cs 57 (0,0))
theorem KeepN.refl (w:World):KeepN w w:=fun _ _ h=>h
theorem KeepN.trans {w w1 w2:World} (h:KeepN w w1) (h':KeepN w1 w2):KeepN w w2:=fun k cs e=>h' k cs (h k cs e)
theorem KeepN.below {w w':World} (h:Below w.heap.size w w'):KeepN w w':=fun k _ e=>(h.block k (ar e)).trans e
theorem KeepN.set {w:World} {b:Nat} {cs:Array Value} {fr:Nat×Nat} (h:w.heap[b]? =some (.cells cs 120 fr)) (j:Nat) (u:Value):KeepN w (w.setCell ⟨b,j,none⟩ u):=fun k c e=>(aG _ _ _ _ (fun hk=>by
 have hk':k=b:=hk;subst hk';rw[h] at e;injection aI e with _ e2 _
 exact absurd e2 (by decide))).trans e
theorem KeepN.grown {w w':World} {B:Nat} {v:Value} {n:Nat} {xs:List Value} (h:w.ownsRow B 5 1 v n xs) (hg:w.grownBy w' v.ownBlock):KeepN w w':=fun k c e=>(hg.block k (ar e) (fun hk=>by
 obtain ⟨_,h0 | ⟨g,cap,cur,rfl,_,hh,_⟩⟩:=h
 · rw[h0.1] at hk;cases hk
 · obtain rfl:k=g:=aI hk;rw[hh] at e;injection aI e with _ e2 _
   exact absurd e2 (by decide))).trans e
theorem lX (B b:Nat) (bs:List Value) (w:World) (h:Lib.IsBuilder 120 5 B b bs w):
    Calls prog 165 #[.pointer (some ⟨b,0,none⟩)] w fun e w'=>e=.returned (.tuple #[])∧Lib.BuilderAt 120 5 B b (.pointer (some ⟨b,0,none⟩)) bs w'∧Below B w w'∧KeepN w w':=by
 rcases h with h | h
 · refine (ii b w h.cell0 h.shape h.frozen0).mono ?_;rintro e w' ⟨rfl,rfl⟩;obtain ⟨h1,v,h2,-⟩:=id h;exact ⟨rfl,h.used _,(am B w).setCell (p:=⟨b,0,none⟩) h.1 _,KeepN.set h2 0 _⟩
 · refine (iJ b w h.cell0).mono ?_;rintro e w' ⟨rfl,rfl⟩;exact ⟨rfl,h,am B _,KeepN.refl _⟩
theorem lY (B b:Nat) (bs:List Value) (c:Int) (w:World) (h:Lib.IsBuilder 120 5 B b bs w) (hlen:bs.length+1≤140737488355328) (hBw:B≤w.heap.size):
    Calls prog 120 #[.pointer (some ⟨b,0,none⟩),.int .u8 c] w fun e w'=>e=.returned .nilIface∧Lib.IsBuilder 120 5 B b (bs++[.int .u8 c]) w'∧Below B w w'∧KeepN w w':=by
 obtain ⟨i0,hi,hz0,hz1,hz2⟩:=info_parts mT
 go_enter func120,ntmps120
 go_wp2_with (go_at_call 165;refine (lX B b bs _ h).mono ?_)
 rintro e w1 ⟨rfl,h1,hb1,hk1⟩;obtain ⟨hB,v,hbk,hown,hne⟩:=h1;have c0:w1.cell? ⟨b,0,none⟩=some (.pointer (some ⟨b,0,none⟩)):=by rw[Lib.cell_of_heap hbk];rfl
 have c1:w1.cell? ⟨b,1,none⟩=some v:=by rw[Lib.cell_of_heap hbk];rfl
 go_wp2_with (at_builtin;refine wpList_append_own _ rfl (.tmp 11) (.tmp 13) 99 rfl B 5 i0 (.int .u8 0) 1 1 underlying99 hi hz0 hz1 hz2 rfl (by decide) _ _ _ rfl (hown.alloc _) ⟨w1.heap.size,0,none⟩ 1 1 [.int .u8 c] rfl rfl ?c1 ?c2 ?c3 ?c4 ?c5 ?_)
 case c1=>
  intro j u hj
  match j,hj with
  | 0,hj=>simp at hj;subst hj;simp[Addr.add]
 case c2=>intro u hu;simp at hu;subst hu;rfl
 case c3=>unfold maxLen;omega
 case c4=>omega
 case c5=>have:=hb1.size;simp;omega
 intro v' w2 hown' hgrow _
 have hlt:b<w1.heap.size:=by
  rcases Nat.lt_or_ge b w1.heap.size with h' | h'
  · exact h'
  · simp[Array.getElem?_eq_none h'] at hbk
 have hb2:w2.heap[b]? =some (.cells #[.pointer (some ⟨b,0,none⟩),v] 120 (0,0)):=by
  rw[hgrow.block b (by simp;omega) (fun e=>hne e.symm),Lib.alloc_old w1 _ b hlt];exact hbk
 have d0:w2.cell? ⟨b,0,none⟩=some (.pointer (some ⟨b,0,none⟩)):=by rw[Lib.cell_of_heap hb2];rfl
 have d1:w2.cell? ⟨b,1,none⟩=some v:=by rw[Lib.cell_of_heap hb2];rfl
 have f1:w2.frozen? ⟨b,1,none⟩=false:=Lib.frozen_of_heap hb2 1;have hk3:=((hk1.trans (KeepN.below (aO w1 (.cells #[.int .u8 c] 5)))).trans (KeepN.grown (hown.alloc _) hgrow)).trans (KeepN.set hb2 1 v');obtain ⟨g,cap,rfl,_⟩:=bP hown' (by omega);have HK3:=hid hk3;clear hk3
 go_wp2
 go_ret
 refine ⟨rfl,.inr ?_,?_,HK3.out⟩
 · exact Lib.BuilderAt.put (T:=120) (e:=5) hB hb2 (bs':=bs++[.int .u8 c]) (by simpa using hown') (by decide)
 · exact ((hb1.alloc (by have:=hb1.size;omega) _).grown hgrow (by have:=hb1.size;simp;omega) (fun k hk=>(hown.lt k hk).1)).setCell (p:=⟨b,1,none⟩) hB _
theorem jL (B b:Nat) (bs:List Value) (s:ByteArray) (w:World) (h:Lib.IsBuilder 120 5 B b bs w) (hlen:bs.length+s.size≤140737488355328) (hBw:B≤w.heap.size):
    Calls prog 117 #[.pointer (some ⟨b,0,none⟩),.string s] w fun e w'=>e=.returned (.tuple #[.int .i64 s.size,.nilIface])∧Lib.IsBuilder 120 5 B b (bs++Lib.strCells s) w'∧Below B w w'∧KeepN w w':=by
 obtain ⟨i0,hi,hz0,hz1,hz2⟩:=info_parts mT
 go_enter func117,ntmps117
 go_wp2_with (go_at_call 165;refine (lX B b bs _ h).mono ?_)
 rintro e w1 ⟨rfl,h1,hb1,hk1⟩;obtain ⟨hB,v,hbk,hown,hne⟩:=h1;have c0:w1.cell? ⟨b,0,none⟩=some (.pointer (some ⟨b,0,none⟩)):=by rw[Lib.cell_of_heap hbk];rfl
 have c1:w1.cell? ⟨b,1,none⟩=some v:=by rw[Lib.cell_of_heap hbk];rfl
 have hlt:b<w1.heap.size:=by
  rcases Nat.lt_or_ge b w1.heap.size with h' | h'
  · exact h'
  · simp[Array.getElem?_eq_none h'] at hbk
 go_wp2_with (at_builtin;refine Lib.wpList_append_own_string _ rfl (.tmp 12) (.tmp 13) 99 9 rfl B 5 i0 underlying99 underlying9 hi hz0 hz1 hz2 _ _ _ rfl hown s rfl ?c3 ?c4 ?c5 ?_)
 case c3=>unfold maxLen;omega
 case c4=>omega
 case c5=>have:=hb1.size;omega
 intro v' w2 hown' hgrow _
 have hb2:w2.heap[b]? =some (.cells #[.pointer (some ⟨b,0,none⟩),v] 120 (0,0)):=by
  rw[hgrow.block b hlt (fun e=>hne e.symm)];exact hbk
 have d0:w2.cell? ⟨b,0,none⟩=some (.pointer (some ⟨b,0,none⟩)):=by rw[Lib.cell_of_heap hb2];rfl
 have d1:w2.cell? ⟨b,1,none⟩=some v:=by rw[Lib.cell_of_heap hb2];rfl
 have f1:w2.frozen? ⟨b,1,none⟩=false:=Lib.frozen_of_heap hb2 1;have hsl:(Lib.strCells s).length=s.size:=by unfold Lib.strCells;rw[List.length_map,rD]
 have hb3:Below B w w2:=hb1.grown hgrow (by have:=hb1.size;omega) (fun k hk=>(hown.lt k hk).1);have hk3:=(hk1.trans (KeepN.grown hown hgrow)).trans (KeepN.set hb2 1 v');obtain ⟨a,cap,rfl⟩:=cR hown';have HK3:=hid hk3;clear hk3
 go_wp2
 go_ret2
 refine ⟨rfl,.inr ?_,?_,HK3.out⟩
 · exact Lib.BuilderAt.put (T:=120) (e:=5) hB hb2 (bs':=bs++Lib.strCells s) (by rw[aE,hsl];exact hown') (by decide)
 · exact hb3.setCell (p:=⟨b,1,none⟩) hB _
def WPo (b:Nat) (w:World) (n:Nat) (acc:List UInt8) (e:Ending) (w':World):Prop:=
 e=.returned (.int .i64 (n:Nat))∧Lib.IsBuilder 120 5 b b (Lib.byteCells acc) w'∧Below b w w'∧KeepN w w'
theorem sj {d:Nat} {q:Rat} (hq:DS d q) (hd:d≤2000) (b g c i:Nat) (ts:List Nd) (sort kids:Int) (name:ByteArray) (acc:List UInt8) (w:World) (hEn:Env w) (hB:Lib.IsBuilder 120 5 b b (Lib.byteCells acc) w) (hacc:acc.length≤1000000)
    (hi:ts[i]? =some ⟨3,sort,name,TX q,kids⟩) (hts:ts.length≤20000) (hN:NodesAt w g ts):
    Calls prog 79 #[.pointer (some ⟨b,0,none⟩),.slice (some ⟨g,0,none⟩) ts.length c,.int .i64 (i:Nat)] w (WPo b w (i+1) (acc++(fnT sort q).data.toList)):=by
 have hlt:=(List.getElem?_eq_some_iff.1 hi).1;obtain ⟨c0,c1,c2,c3,c4⟩:=eG hi hN;have hlt':(i:Int)<(ts.length:Int):=by omega
 have hal:=aO w (.cells #[.int .i64 3,.int .i64 sort,.string name,.string (TX q),.int .i64 kids] 57);have hbl:=bO hB;have hbx:=aq w (.cells #[.int .i64 3,.int .i64 sort,.string name,.string (TX q),.int .i64 kids] 57);have HB1:=hid (cS hB hal);have hfn:=jt hq hd 3 sort kids name _ (hEn.far hal);have HAL:=hid hal
 have hfl:(fnT sort q).size≤50000:=by
  unfold fnT
  split
  · have h1:=lf hq.neg hd sort;simp only[ByteArray.size_append];rw[show (⟨#[40,45,32]⟩:ByteArray).size=3 from rfl,show (⟨#[41]⟩:ByteArray).size=1 from rfl];omega
  · have h1:=lf hq hd sort
    omega
 clear hal hB hEn hN hi;generalize fnT sort q=ft at *;generalize TX q=tq at *;generalize ts.length=n at *;unfold WPo
 go_enter func79,ntmps79
 go_wp2_with fail
 generalize hw1:w.alloc (.cells #[.int .i64 3,.int .i64 sort,.string name,.string tq,.int .i64 kids] 57)=w1 at *;refine hfn.mono ?_;rintro e w2 ⟨rfl,hb2⟩;have HB2:=hid (cS HB1.out hb2);have hbw:Below b w w2:=(HAL.out.mono (aL hbl.2)).trans (hb2.mono (aP (aL hbl.2) HAL.out.size));have hkp:KeepN w w2:=(KeepN.below HAL.out).trans (KeepN.below hb2);have hbx2:=(hb2.block _ (ar hbx)).trans hbx;have hws:=jL b b (Lib.byteCells acc) ft w2 HB2.out (by rw[Lib.byteCells_length];omega) (aL (bO HB2.out).2);have HBW:=hid hbw;have HKP:=hid hkp;have e1:Lib.byteCells acc++Lib.strCells ft=Lib.byteCells (acc++ft.data.toList):=by rw[Lib.strCells_eq];unfold Lib.byteCells;rw[List.map_append]
 rw[e1] at hws;clear hfn hb2 hbw e1 HB1 HAL HB2 hbx hw1 c0 c1 c2 c3 c4 hkp
 go_wp2_with fail
 refine hws.mono ?_;rintro e w3 ⟨rfl,hB3,hb3,hk3⟩;have HB3:=hid hB3;have HBW3:=hid (HBW.out.trans hb3);have HKP3:=hid (HKP.out.trans hk3);clear hws hB3 hb3 hk3
 go_wp2
 go_ret
 exact ⟨by congr 2,HB3.out,HBW3.out,HKP3.out⟩
def wdO (K:Int):ByteArray:=if K=19 then ⟨#[115,116,111,114,101]⟩ else ⟨#[99,111,110,115,116]⟩
theorem vl (K sort kids:Int) (hK:K=19∨K=20) (name num:ByteArray) (w:World):Calls prog 119 #[.agg #[.int .i64 K,.int .i64 sort,.string name,.string num,.int .i64 kids]] w fun e w'=>e=.returned (.string (wdO K))∧Below w.heap.size w w':=by
 have HA:=hid (aO w (.cells #[.int .i64 K,.int .i64 sort,.string name,.string num,.int .i64 kids] 57));rcases hK with rfl | rfl <;>
 · go_enter func119,ntmps119
   go_wp2
   go_ret
   exact ⟨rfl,HA.out⟩
theorem nP (b g c i m:Nat) (ts:List Nd) (K sort:Int) (hK:K=19∨K=20) (name num:ByteArray) (acc:List UInt8) (nx:Nat→Nat) (out:Nat→List UInt8) (w:World)
    (hB:Lib.IsBuilder 120 5 b b (Lib.byteCells acc) w) (hacc:acc.length≤1000000) (hi:ts[i]? =some ⟨K,sort,name,num,(m:Nat)⟩) (hts:ts.length≤20000) (hN:NodesAt w g ts) (hm:m≤1000)
    (h0:nx 0=i+1) (ho0:out 0=acc++40::(wdO K).data.toList) (hol:∀j,j≤m→(out j).length≤1000000)
    (hk:∀j,j<m→∀W,Below b w W→Lib.IsBuilder 120 5 b b (Lib.byteCells (out j++[32])) W→Calls prog 79 #[.pointer (some ⟨b,0,none⟩),.slice (some ⟨g,0,none⟩) ts.length c,.int .i64 (nx j:Nat)] W (WPo b W (nx (j+1)) (out (j+1)))):
    Calls prog 79 #[.pointer (some ⟨b,0,none⟩),.slice (some ⟨g,0,none⟩) ts.length c,.int .i64 (i:Nat)] w (WPo b w (nx m) (out m++[41])):=by
 have hlt:=(List.getElem?_eq_some_iff.1 hi).1;obtain ⟨c0,c1,c2,c3,c4⟩:=eG hi hN;have hlt':(i:Int)<(ts.length:Int):=by omega
 have hal:=aO w (.cells #[.int .i64 K,.int .i64 sort,.string name,.string num,.int .i64 (m:Nat)] 57);have hbl:=bO hB;have HBX:=hid (aq w (.cells #[.int .i64 K,.int .i64 sort,.string name,.string num,.int .i64 (m:Nat)] 57));have HB1:=hid (cS hB hal);have HOP:=hid (vl K sort (m:Nat) hK name num (w.alloc (.cells #[.int .i64 K,.int .i64 sort,.string name,.string num,.int .i64 (m:Nat)] 57)));have HAL:=hid hal;have HBL:=hid hbl;have HK:=hid hk;have HOL:=hid hol;have hwd:(wdO K).size=5:=by rcases hK with rfl | rfl <;> rfl
 have HO0:=hid ho0;have HNX0:=hid h0;clear hal hB hN hi hbl hk hol ho0 h0;generalize wdO K=wd at *;generalize ts.length=n at *;unfold WPo;rcases hK with rfl | rfl <;>
 · go_enter func79,ntmps79
   go_wp2_with fail
   generalize hN0:w.heap.size=N at *;have HN0:=hid hN0;generalize hw1:w.alloc _=w1 at *;refine HOP.out.mono ?_;rintro e w2 ⟨rfl,hb2⟩;have HB2:=hid (cS HB1.out hb2);have hbw:Below b w w2:=(HAL.out.mono (aL HBL.out.2)).trans (hb2.mono (aP (aL HBL.out.2) (by have:=HAL.out.size;omega)));have HKP:=hid (KeepN.trans (KeepN.below (w:=w) (by rw[hN0];exact HAL.out)) (KeepN.below hb2));have HX2:=hid ((hb2.block _ (ar HBX.out)).trans HBX.out);have hws:=jL b b (Lib.byteCells acc) (⟨#[40]⟩++wd) w2 HB2.out (by rw[Lib.byteCells_length,ByteArray.size_append,hwd];show acc.length+(1+5)≤_;omega) (aL (bO HB2.out).2);have HBW:=hid hbw
   have e1:Lib.byteCells acc++Lib.strCells (⟨#[40]⟩++wd)=Lib.byteCells (out 0):=by
    rw[Lib.strCells_eq,HO0.out,Lib.byteCells_append]
    simp
   rw[e1] at hws;clear hb2 hbw e1 HB1 HAL HB2 HBX hw1 c0 c1 c2 c3 c4 hN0 HOP
   go_wp2_with fail
   refine hws.mono ?_;rintro e w3 ⟨rfl,hB3,hb3,hk3⟩;have HB3:=hid hB3;have HBW3:=hid (HBW.out.trans hb3);have HKP3:=hid (HKP.out.trans hk3);have HX3:=hid (hk3 _ _ HX2.out);have z4:=aa HX3.out 4;clear hws hB3 hb3 hk3 HBW HKP HX2
   go_wp2_with fail
   go_loopw [8,24] (fun v8 v24 wr=>∃j:Nat,j≤m∧v24=.int .i64 (j:Nat)∧v8=.int .i64 (nx j:Nat)∧Lib.IsBuilder 120 5 b b (Lib.byteCells (out j)) wr∧Below b w wr∧KeepN w wr∧KeepN w3 wr) (fun _ v _=>m-(intOf v).toNat)
   case atStart=>exact ⟨0,aM _,rfl,by rw[HNX0.out];go_num,HB3.out,HBW3.out,HKP3.out,KeepN.refl _⟩
   case round=>
    obtain ⟨j,hj,rfl,rfl,hB,hbw,hkp,hkx⟩:=hrel;have HBr:=hid hB;have HBWr:=hid hbw;have HKPr:=hid hkp;have HKXr:=hid hkx;have hoj:=HOL.out j hj
    by_cases hjm:j<m
    · have hjm':(j:Int)<(m:Int):=by omega
      have hwb:=lY b b (Lib.byteCells (out j)) 32 wr hB (by rw[Lib.byteCells_length];omega) (aL (bO hB).2);have e1:Lib.byteCells (out j)++[Value.int .u8 32]=Lib.byteCells (out j++[32]):=by rw[Lib.byteCells_append];rfl
      rw[e1] at hwb;clear hB hbw hkp hkx e1
      go_wp2_with fail
      refine hwb.mono ?_;rintro e w5 ⟨rfl,hB5,hb5,hk5⟩;have HB5:=hid hB5;have HBW5:=hid (HBWr.out.trans hb5);have HKP5:=hid (HKPr.out.trans hk5);have HKX5:=hid (HKXr.out.trans hk5);have hkd:=HK.out j hjm w5 HBW5.out hB5;clear hwb hB5 hb5 hk5
      go_wp2_with fail
      refine hkd.mono ?_;rintro e w6 ⟨rfl,hB6,hb6,hk6⟩;have HB6:=hid hB6;have HBW6:=hid (HBW5.out.trans hb6);have HKP6:=hid (HKP5.out.trans hk6);have HKX6:=hid (HKX5.out.trans hk6);clear hkd hB6 hb6 hk6
      go_wp2_with fail
      go_roundw
      case rel=>exact ⟨j+1,hjm,by go_num,rfl,HB6.out,HBW6.out,HKP6.out,HKX6.out⟩
      case measure=>simp[intOf];omega
    · obtain rfl:j=m:=by omega
      have hwb:=lY b b (Lib.byteCells (out j)) 41 wr hB (by rw[Lib.byteCells_length];omega) (aL (bO hB).2);have e1:Lib.byteCells (out j)++[Value.int .u8 41]=Lib.byteCells (out j++[41]):=by rw[Lib.byteCells_append];rfl
      rw[e1] at hwb;have hX:=hkx _ _ HX3.out;have y0:=aa hX 0;clear hB hbw hkp hkx e1 hX
      go_wp2_with fail
      refine hwb.mono ?_;rintro e w5 ⟨rfl,hB5,hb5,hk5⟩;have HB5:=hid hB5;have HBW5:=hid (HBWr.out.trans hb5);have HKP5:=hid (HKPr.out.trans hk5);clear hwb hB5 hb5 hk5
      go_wp2
      go_ret
      exact ⟨rfl,HB5.out,HBW5.out,HKP5.out⟩
def fiT (z:Int):List UInt8:=(fnT 2 (z:Rat)).data.toList
theorem gH {z:Int} (h:Sm z):(fiT z).length≤110:=by
 have h1:=h.sz;have h2:=(show Sm (-z) by unfold Sm at h ⊢;rwa [Int.natAbs_neg]).sz;have e:(fiT z).length=(fnT 2 (z:Rat)).size:=rfl;rw[e];unfold fnT
 split
 · rw[ByteArray.size_append,ByteArray.size_append,gZ,aF rfl,←Rat.intCast_neg];show 3+(TI (-z)).size+1≤110
   omega
 · rw[gZ,aF rfl];show (TI z).size≤110
   omega
def fAk (d:Int) (l:Arx.L):Nat→List UInt8
 | 0=>40::(wdO 20).data.toList++[32]++fiT d++[41]
 | k+1=>40::(wdO 19).data.toList++[32]++fAk d l k++[32]++fiT (l.getD k (0,0)).1++[32]++fiT (l.getD k (0,0)).2++[41]
theorem uh {d:Int} {l:Arx.L} (hd:Sm d) (hs:∀p∈l,Sm p.1∧Sm p.2):∀k,k≤l.length→(fAk d l k).length≤300*(k+1):=by
 intro k
 induction k with
 | zero=>intro _;have:=gH hd;simp[fAk,wdO,List.length_append];omega
 | succ k ih=>
   intro h;have h1:=ih (by omega);have h2:=hs l[k] (List.getElem_mem _);have h3:=gH h2.1;have h4:=gH h2.2;have e:l[k]? =some l[k]:=ay (by omega)
   simp[fAk,wdO,List.length_append,e];omega
def ch4 {α:Type} (a b c d:α):Nat→α
 | 0=>a
 | 1=>b
 | 2=>c
 | _=>d
theorem wI (d:Int) (l:Arx.L) {i:Nat} (h:i<l.length):(tsA d l)[i]? =some stN:=by
 unfold tsA;rw[List.getElem?_append_left (by simp;omega),List.getElem?_append_left (by simpa using h),List.getElem?_replicate,aF h]
theorem wJ (d:Int) (l:Arx.L):(tsA d l)[l.length]? =some coN:=by
 unfold tsA;rw[List.getElem?_append_left (by simp),List.getElem?_append_right (by simp)]
 simp
theorem wK (d:Int) (l:Arx.L):(tsA d l)[l.length+1]? =some (nuN d):=by
 unfold tsA;rw[List.getElem?_append_left (by simp),List.getElem?_append_right (by simp)]
 simp
theorem yJ:∀(l:Arx.L) (k:Nat) (h:k<l.length),(kvN l)[2*k]? =some (nuN l[k].1)∧(kvN l)[2*k+1]? =some (nuN l[k].2):=by
 intro l
 induction l with
 | nil=>intro k h;simp at h
 | cons p l ih=>
   intro k h;have e:kvN (p::l)=nuN p.1::nuN p.2::kvN l:=rfl;cases k with
   | zero=>rw[e];exact ⟨rfl,rfl⟩
   | succ k=>
     obtain ⟨h1,h2⟩:=ih k (by simpa using h);rw[e,show 2*(k+1)=2*k+1+1 by omega];simp only[List.getElem?_cons_succ,List.getElem_cons_succ];exact ⟨h1,h2⟩
theorem wL (d:Int) (l:Arx.L) {k:Nat} (h:k<l.length):(tsA d l)[l.length+2+2*k]? =some (nuN l[k].1)∧(tsA d l)[l.length+3+2*k]? =some (nuN l[k].2):=by
 obtain ⟨h1,h2⟩:=yJ l k h;have e:(List.replicate l.length stN++[coN,nuN d]).length=l.length+2:=by simp
 unfold tsA;rw[List.getElem?_append_right (by rw[e];omega),List.getElem?_append_right (by rw[e];omega),e,show l.length+2+2*k-(l.length+2)=2*k by omega,show l.length+3+2*k-(l.length+2)=2*k+1 by omega];exact ⟨h1,h2⟩
theorem vm {d:Int} {l:Arx.L} (hd:Sm d) (hs:∀p∈l,Sm p.1∧Sm p.2) (hl:l.length≤1000) (b g c:Nat) (hg:g<b) (w0:World) (hEn:∀W,Below b w0 W→Env W) (hN:NodesAt w0 g (tsA d l)):
    ∀(k:Nat),k≤l.length→∀(acc:List UInt8) (W:World),Below b w0 W→Lib.IsBuilder 120 5 b b (Lib.byteCells acc) W→acc.length+600*(k+1)≤900000→
     Calls prog 79 #[.pointer (some ⟨b,0,none⟩),.slice (some ⟨g,0,none⟩) (tsA d l).length c,.int .i64 ((l.length-k:Nat):Nat)] W (WPo b W (l.length+2+2*k) (acc++fAk d l k)):=by
 have hts:(tsA d l).length≤20000:=by rw[dl];omega
 have hnum:∀(z:Int),Sm z→∀(i:Nat),(tsA d l)[i]? =some (nuN z)→∀(acc:List UInt8) (W:World),Below b w0 W→Lib.IsBuilder 120 5 b b (Lib.byteCells acc) W→acc.length≤1000000→
     Calls prog 79 #[.pointer (some ⟨b,0,none⟩),.slice (some ⟨g,0,none⟩) (tsA d l).length c,.int .i64 (i:Nat)] W (WPo b W (i+1) (acc++fiT z)):=
  fun z hz i hi acc W hW hB ha=>sj hz.ds (by decide) b g c i (tsA d l) 2 0 ⟨#[]⟩ acc W (hEn W hW) hB ha hi hts (hN.below hW hg)
 intro k
 induction k with
 | zero=>
   intro _ acc W hW hB ha;refine (nP b g c l.length 1 (tsA d l) 20 0 (.inr rfl) ⟨#[]⟩ ⟨#[]⟩ acc (fun j=>l.length+1+j) (ch4 (acc++40::(wdO 20).data.toList) (acc++40::(wdO 20).data.toList++[32]++fiT d) [] []) W hB (by omega) (wJ d l) hts (hN.below hW hg) (by decide) rfl rfl (fun j hj=>?_) (fun j hj W' hW' hB'=>?_)).mono ?_
   · have:=gH hd
     match j,hj with
     | 0,_=>simp[ch4,wdO];omega
     | 1,_=>simp[ch4,wdO];omega
   · obtain rfl:j=0:=by omega
     exact hnum d hd (l.length+1) (wK d l) _ W' (hW.trans hW') hB' (by simp[wdO];omega)
   · intro e w' h;refine Eq.mp ?_ h;have e1:ch4 (acc++40::(wdO 20).data.toList) (acc++40::(wdO 20).data.toList++[32]++fiT d) [] [] 1++[41]=acc++fAk d l 0:=by simp[fAk,ch4]
     rw[e1]
 | succ k ih=>
   intro hk acc W hW hB ha;have hp:=hs l[k] (List.getElem_mem _);have e:l[k]? =some l[k]:=ay (by omega);have f1:=gH hp.1;have f2:=gH hp.2;have f3:=uh hd hs k (by omega);obtain ⟨t1,t2⟩:=wL d l (show k<l.length by omega);rw[show l.length+3+2*k=l.length+2+2*k+1 by omega] at t2;have hik:l.length-(k+1)+1=l.length-k:=by omega
   refine (nP b g c (l.length-(k+1)) 3 (tsA d l) 19 0 (.inl rfl) ⟨#[]⟩ ⟨#[]⟩ acc (ch4 (l.length-(k+1)+1) (l.length+2+2*k) (l.length+2+2*k+1) (l.length+2+2*k+1+1)) (ch4 (acc++40::(wdO 19).data.toList) (acc++40::(wdO 19).data.toList++[32]++fAk d l k) (acc++40::(wdO 19).data.toList++[32]++fAk d l k++[32]++fiT l[k].1) (acc++40::(wdO 19).data.toList++[32]++fAk d l k++[32]++fiT l[k].1++[32]++fiT l[k].2)) W hB (by omega) (wI d l (by omega)) hts (hN.below hW hg) (by decide) rfl rfl (fun j hj=>?_) (fun j hj W' hW' hB'=>?_)).mono ?_
   · match j,hj with
     | 0,_=>simp[ch4,wdO];omega
     | 1,_=>simp[ch4,wdO];omega
     | 2,_=>simp[ch4,wdO];omega
     | 3,_=>simp[ch4,wdO];omega
   · match j,hj with
     | 0,_=>
       have:=ih (by omega) (acc++40::(wdO 19).data.toList++[32]) W' (hW.trans hW') hB' (by simp[wdO];omega);show Calls _ _ #[_,_,.int .i64 ((l.length-(k+1)+1:Nat):Nat)] _ _;rw[hik];exact this
     | 1,_=>exact hnum _ hp.1 (l.length+2+2*k) t1 (acc++40::(wdO 19).data.toList++[32]++fAk d l k++[32]) W' (hW.trans hW') hB' (by simp[wdO];omega)
     | 2,_=>exact hnum _ hp.2 (l.length+2+2*k+1) t2 (acc++40::(wdO 19).data.toList++[32]++fAk d l k++[32]++fiT l[k].1++[32]) W' (hW.trans hW') hB' (by simp[wdO];omega)
   · intro e' w' h;refine Eq.mp ?_ h
     congr 1
     · simp[fAk,ch4,e]
theorem yK {d:Int} {l:Arx.L} {k u:Value} {w:World} (h:AR w d l k u) (W:World) (hE:Env W) (g c:Nat) (hg:g<W.heap.size) (hn:NodesAt W g (tsA d l)) (hvd:vdF (naF (tsA d l)) (tsA d l)=true):
    Calls prog 49 #[.slice (some ⟨g,0,none⟩) (tsA d l).length c] W fun e w'=>e=.returned (.bool true)∧Below W.heap.size W w':=by
 have hv:=iR (iT g c (tsA d l) W (by rw[dl];have:=h.ln;omega) hg hn (by
  intro x hx;unfold tsA kvN at hx;have hs:∀z:Int,Sm z→(nuN z).num.size≤1000:=fun z h=>by have:=h.sz;show (TI z).size≤1000;omega
  simp only[List.mem_append,List.mem_replicate,List.mem_cons,List.not_mem_nil,or_false,List.mem_flatMap] at hx;rcases hx with (⟨-,rfl⟩ | rfl | rfl) | ⟨p,hp,rfl | rfl⟩
  · exact aM _
  · exact aM _
  · exact hs d h.sd
  · exact hs _ (h.sl p hp).1
  · exact hs _ (h.sl p hp).2) hE (by
  intro x hx;unfold tsA kvN at hx;simp only[List.mem_append,List.mem_replicate,List.mem_cons,List.not_mem_nil,or_false,List.mem_flatMap] at hx;rcases hx with (⟨-,rfl⟩ | rfl | rfl) | ⟨p,hp,rfl | rfl⟩
  · decide
  · decide
  · show ¬(3:Int)=5;decide
  · show ¬(3:Int)=5;decide
  · show ¬(3:Int)=5;decide) hvd)
 rwa [hvd] at hv
theorem lZ {d:Int} {l:Arx.L} {k u:Value} {w0:World} (h:AR w0 d l k u) (hvd:vdF (naF (tsA d l)) (tsA d l)=true) (g c:Nat) (w:World) (hEn:Env w) (hg:g<w.heap.size) (hc:NodesAt w g (tsA d l)):
    Calls prog 54 #[.slice (some ⟨g,0,none⟩) (3*l.length+2) c] w fun e w'=>e=.returned (.string ⟨(fAk d l l.length).toArray⟩)∧Below w.heap.size w w':=by
 have hval:=yK h w hEn g c hg hc hvd;have HWA:=hid fun (b:Nat) (hgb:g<b) (W0:World) (hE:∀W,Below b W0 W→Env W) (hN:NodesAt W0 g (tsA d l)) (hB:Lib.IsBuilder 120 5 b b (Lib.byteCells []) W0)=>vm h.sd h.sl h.ln b g c hgb W0 hE hN l.length (aj _) [] W0 (am _ _) hB (by have:=h.ln;simp;omega)
 simp only[Nat.sub_self,dl] at HWA hval;have HC:=hid hc;have HEn:=hid hEn;clear hc hEn hvd h;generalize fAk d l l.length=tx at *;generalize l.length=n at *
 go_enter func54,ntmps54
 go_wp2_with fail
 refine hval.mono ?_;rintro e w2 ⟨rfl,hb2⟩;have hal:=aO w2 (.cells #[.pointer none,.slice none 0 0] 120);have hbw:=iK w2;have hb3:=hb2.trans (hal.mono hb2.size);have hN3:=HC.out.below hb3 hg;have hwr:=HWA.out w2.heap.size (aC hg hb2.size) _ (fun W hW=>HEn.out.far (hb3.trans (hW.mono hb2.size))) hN3 hbw;have HB3:=hid hb3;have HS2:Hid (w.heap.size≤w2.heap.size):=hid hb2.size;unfold WPo at hwr;rw[List.nil_append] at hwr;clear hval hb2 hal hbw hb3 hN3
 go_wp2_with fail
 generalize hw3:w2.alloc (.cells #[.pointer none,.slice none 0 0] 120)=w3 at *;refine hwr.mono ?_;rintro e w4 ⟨rfl,hB4,hb4,-⟩;have HB4:=hid (HB3.out.trans (hb4.mono HS2.out));have hst:=Tryz.Builder_String_any w2.heap.size w2.heap.size tx w4 hB4 (aL (bO hB4).2);have HS4:Hid (w2.heap.size≤w4.heap.size):=hid (aL (bO hB4).2);clear hwr hB4 hb4 hw3
 go_wp2_with fail
 refine hst.mono ?_;rintro e w5 ⟨rfl,hb5⟩;have HB5:=hid (HB4.out.trans (hb5.mono HS2.out));clear hst hb5
 go_wp2
 go_ret
 exact ⟨rfl,HB5.out⟩
theorem yL {d:Int} {l:Arx.L} {k u:Value} (w:World) (hE:Env w) (h:AR w d l k u) (hvd:vdF (naF (tsA d l)) (tsA d l)=true):
    Calls prog 28 #[bh 4 false (TI d) k u] w fun e w'=>e=.returned (.string ⟨(fAk d l l.length).toArray⟩)∧Below w.heap.size w w':=by
 have hA:=aO w (.cells #[.int .i64 4,.bool false,.string (TI d),k,u] 24);have HT:=hid (ql _ (hE.far hA) (h.far hA) hvd);have HF:=hid fun (W:World) (hW:Below w.heap.size w W) (g c:Nat) (hg:g<W.heap.size) (hn:NodesAt W g (tsA d l))=>lZ h hvd g c W (hE.far hW) hg hn
 have HB:=hid hA;obtain ⟨a,c,a',c',rfl,rfl⟩:=h.form;unfold bh at HT ⊢;generalize TI d=td at *;generalize fAk d l l.length=tx at *;clear hA h hE;generalize l.length=n at *
 go_enter func28,ntmps28
 go_wp2_with fail
 generalize hw1:World.alloc _ _=w1 at *;refine HT.out.mono ?_;rintro e w2 ⟨g,c2,rfl,hN,hg,hb⟩;have hB2:=HB.out.trans (hb.mono HB.out.size);have hf:=HF.out w2 hB2 g c2 hg hN;have HB2:=hid hB2;clear hb hB2 hN hw1 HT HF
 go_wp2_with fail
 refine hf.mono ?_;rintro e w3 ⟨rfl,hb⟩;have HB3:=hid (HB2.out.trans (hb.mono HB2.out.size));clear hb hf
 go_wp2
 go_ret
 exact ⟨rfl,HB3.out⟩
end Go.Proofs.YtpkfnnkbfphfbaaGreatDoor.Se

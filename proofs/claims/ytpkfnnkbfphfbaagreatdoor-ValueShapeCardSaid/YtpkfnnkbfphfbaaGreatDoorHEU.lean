import Derived.Test.YtpkfnnkbfphfbaaGreatDoorHET
set_option maxRecDepth 100000
set_option maxHeartbeats 40000000
open Go.Lib (hid)
namespace Go.Proofs.YtpkfnnkbfphfbaaGreatDoor.Se
open Go.RowKit Nmx Go.Proofs.Tryz
theorem wM {d x v:Int} {l:Arx.L} {k u:Value} (w:World) (hE:Env w) (h:AR w d l k u) (hx:Sm x) (hv:Sm v) (hl:l.length<1000):
    Calls prog 18 #[bh 4 false (TI d) k u,.string (TI x),.string (TI v)] w fun e w'=>∃k' u',e=.returned (.tuple #[bh 4 false (TI d) k' u',.int .i64 0])∧AV w.heap.size w' d (Arx.stA d l x v) k' u'∧Below w.heap.size w w':=by
 have hA:=aO w (.cells #[.int .i64 4,.bool false,.string (TI d),k,u] 24);have hA2:=aO (w.alloc (.cells #[.int .i64 4,.bool false,.string (TI d),k,u] 24)) (.cells #[.int .i64 0,.bool false,.string ⟨#[]⟩,.slice none 0 0,.slice none 0 0] 24);have b1:=(hA2.block _ (ar (aq w (.cells #[.int .i64 4,.bool false,.string (TI d),k,u] 24)))).trans (aq w (.cells #[.int .i64 4,.bool false,.string (TI d),k,u] 24));have b2:=aq (w.alloc (.cells #[.int .i64 4,.bool false,.string (TI d),k,u] 24)) (.cells #[.int .i64 0,.bool false,.string ⟨#[]⟩,.slice none 0 0,.slice none 0 0] 24);rw[show (w.alloc (.cells #[.int .i64 4,.bool false,.string (TI d),k,u] 24)).heap.size=w.heap.size+1 by simp] at b2;have hB:=hA.trans (hA2.mono hA.size);have hva:=pX _ (hE.far hB) (h.far hB);have HIX:=hid fun W (hW:Below w.heap.size w W)=>fY hx W (hE.far hW)
 have HIV:=hid fun W (hW:Below w.heap.size w W)=>fY hv W (hE.far hW)
 have HST:=hid fun W (hW:Below w.heap.size w W)=>wq W (hE.far hW) (h.far hW) hx hv hl
 have HB:=hid hB;have HX1:=hid b1;have HX2:=hid b2;obtain ⟨a,c,a',c',rfl,rfl⟩:=h.form;unfold bh at hva HST ⊢;generalize TI d=td at *;generalize TI x=tx at *;generalize TI v=tv at *;clear hA hA2 b1 b2 hB h hE;generalize l.length=n at *
 go_enter func18,ntmps18
 go_wp2_with fail
 generalize hw1:World.alloc _ _=w1 at *;refine hva.mono ?_;rintro e w2 ⟨rfl,hb⟩;have HX3:=hid ((hb.block _ (ar HX1.out)).trans HX1.out);have HX4:=hid ((hb.block _ (ar HX2.out)).trans HX2.out);have HB2:=hid (HB.out.trans (hb.mono HB.out.size));clear hb hva HX1 HX2 HB hw1
 go_wp2_with fail
 refine (HIX.out _ HB2.out).mono ?_;rintro e w3 ⟨rfl,hb⟩;have HX5:=hid ((hb.block _ (ar HX3.out)).trans HX3.out);have HX6:=hid ((hb.block _ (ar HX4.out)).trans HX4.out);have HB3:=hid (HB2.out.trans (hb.mono HB2.out.size));clear hb HX3 HX4 HB2
 go_wp2_with fail
 refine (HIV.out _ HB3.out).mono ?_;rintro e w4 ⟨rfl,hb⟩;have hX:=(hb.block _ (ar HX5.out)).trans HX5.out;have x0:=aa hX 0;have x1:=aa hX 1;have x2:=aa hX 2;have x3:=aa hX 3;have x4:=aa hX 4;have HX7:=hid ((hb.block _ (ar HX6.out)).trans HX6.out);have HB4:=hid (HB3.out.trans (hb.mono HB3.out.size));clear hb hX HX5 HX6 HB3
 go_wp2_with fail
 refine (HST.out _ HB4.out).mono ?_;rintro e w5 ⟨k',u',rfl,hav,hb⟩;obtain ⟨a1,c1,a2,c2,rfl,rfl⟩:=hav.form;have hR:=(hb.block _ (ar HX7.out)).trans HX7.out;have HAV:=hid hav;have HB5:=hid (HB4.out.trans (hb.mono HB4.out.size));have HLT:Hid (w.heap.size≤w4.heap.size):=hid HB4.out.size;have f0:=aa hR 0;have f1:=aa hR 1;have f2:=aa hR 2;have f3:=aa hR 3;have f4:=aa hR 4;have g0:=aK hR 0;have g1:=aK hR 1;have g2:=aK hR 2;have g3:=aK hR 3;have g4:=aK hR 4;have HR:=hid hR;clear hb hR hav x0 x1 x2 x3 x4;generalize (Arx.stA d l x v).length=m at *
 go_wp2
 obtain ⟨s1,s2,s3⟩:=As HR.out td (.slice a1 m c1) (.slice a2 m c2);refine jI (E:=0) rfl rfl rfl rfl ⟨_,_,_,rfl⟩ ⟨_,_,_,rfl⟩ (s1 rfl) ⟨_,_,rfl,⟨SRow.down (aX HAV.out.ks fun g hg=>s2 g (bY HAV.out.ks hg HR.out)) HLT.out,SRow.down (aX HAV.out.us fun g hg=>s2 g (bY HAV.out.us hg HR.out)) HLT.out,HAV.out.vd,HAV.out.sd,HAV.out.sl,HAV.out.ln⟩,s3 HB5.out (by omega)⟩
theorem ui {k k':Value} {ts ts':List ByteArray} (w:World) (h:RRow w k ts) (h':RRow w k' ts') (hl:ts.length≤100000) (hl':ts'.length≤100000):
    Calls prog 46 #[k,k'] w fun e w'=>e=.returned (.bool (decide (ts=ts')))∧Below w.heap.size w w':=by
 by_cases hn:ts.length=ts'.length
 · by_cases h0:ts.length=0
   · obtain ⟨a,c,rfl,-⟩:=h.sl;obtain ⟨a',c',rfl,-⟩:=h'.sl;obtain rfl:=List.eq_nil_of_length_eq_zero h0;obtain rfl:=List.eq_nil_of_length_eq_zero (hn.symm.trans h0);refine (Tryz.slices_Equal_string_empty a a' c 0 c' w (by omega)).mono ?_;rintro e w' ⟨rfl,rfl⟩;exact ⟨by simp,am _ _⟩
   · obtain ⟨g,o,c,rfl,-⟩:=h.cell (ay (show 0<ts.length by omega));obtain ⟨g',o',c',rfl,-⟩:=h'.cell (ay (show 0<ts'.length by omega));refine (Tryz.slices_Equal_string g o ts.length c g' o' ts'.length c' ts ts' w (aj _) (aj _) (by omega) (by omega) (fun j hj=>?_) (fun j hj=>?_)).mono ?_
     · obtain ⟨g1,o1,c1,e,hc⟩:=h.cell (ay hj);injection e with e _ _;injection aI e with e e2 _;subst e e2;rw[hc];simp[hj]
     · obtain ⟨g1,o1,c1,e,hc⟩:=h'.cell (ay hj);injection e with e _ _;injection aI e with e e2 _;subst e e2;rw[hc];simp[hj]
     · rintro e w' ⟨rfl,q,rfl⟩;rw[List.take_length,List.take_length];exact ⟨rfl,aW (am _ _) q⟩
 · obtain ⟨a,c,rfl,-⟩:=h.sl;obtain ⟨a',c',rfl,-⟩:=h'.sl;refine (Tryz.slices_Equal_string_lens a a' ts.length c ts'.length c' w hn).mono ?_;rintro e w' ⟨rfl,rfl⟩;exact ⟨by rw[aD (fun e=>hn (by rw[e]))],am _ _⟩
theorem Ax {l l':Arx.L} (hk:kT l=kT l') (hv:vT l=vT l'):l=l':=by
 apply List.ext_getElem
 · have:=congrArg List.length hk;simpa [kT] using this
 · intro i h1 h2;have a1:(kT l)[i]? =(kT l')[i]? :=by rw[hk]
   have a2:(vT l)[i]? =(vT l')[i]? :=by rw[hv]
   simp only[kT,vT,List.getElem?_map,ay h1,ay h2,Option.map_some,Option.some.injEq] at a1 a2;exact Prod.ext (r8 a1) (r8 a2)
theorem Ay {d d':Int} {l l':Arx.L} {k u k' u':Value} (w:World) (h:AR w d l k u) (h':AR w d' l' k' u'):
    Calls prog 22 #[bh 4 false (TI d) k u,bh 4 false (TI d') k' u'] w fun e w'=>e=.returned (.bool (decide (d=d'∧l=l')))∧Below w.heap.size w w':=by
 have hA:=aO w (.cells #[.int .i64 4,.bool false,.string (TI d),k,u] 24);have hA2:=aO (w.alloc (.cells #[.int .i64 4,.bool false,.string (TI d),k,u] 24)) (.cells #[.int .i64 4,.bool false,.string (TI d'),k',u'] 24);have b1:=(hA2.block _ (ar (aq w (.cells #[.int .i64 4,.bool false,.string (TI d),k,u] 24)))).trans (aq w (.cells #[.int .i64 4,.bool false,.string (TI d),k,u] 24));have b2:=aq (w.alloc (.cells #[.int .i64 4,.bool false,.string (TI d),k,u] 24)) (.cells #[.int .i64 4,.bool false,.string (TI d'),k',u'] 24);rw[show (w.alloc (.cells #[.int .i64 4,.bool false,.string (TI d),k,u] 24)).heap.size=w.heap.size+1 by simp] at b2;have hB:=hA.trans (hA2.mono hA.size);have HK:=hid fun W (hW:Below w.heap.size w W)=>ui W (h.ks.far hW) (h'.ks.far hW) (by have:=h.ln;simp[kT];omega) (by have:=h'.ln;simp[kT];omega)
 have HU:=hid fun W (hW:Below w.heap.size w W)=>ui W (h.us.far hW) (h'.us.far hW) (by have:=h.ln;simp[vT];omega) (by have:=h'.ln;simp[vT];omega)
 have HB:=hid hB;have HX1:=hid b1;have HX2:=hid b2;have heq:=lW d d';obtain ⟨a,c,a',c',rfl,rfl⟩:=h.form;obtain ⟨a1,c1,a1',c1',rfl,rfl⟩:=h'.form;unfold bh;generalize TI d=td at *;generalize TI d'=td' at *;clear hA hA2 b1 b2 hB h h';obtain ⟨bk,hbk⟩:∃b,decide (kT l=kT l')=b:=⟨_,rfl⟩
 obtain ⟨bu,hbu⟩:∃b,decide (vT l=vT l')=b:=⟨_,rfl⟩
 have HIN:=hid (@Ax l l');rw[hbk] at HK;rw[hbu] at HU;have HBK:=hid hbk;have HBU:=hid hbu;clear hbk hbu;generalize l.length=n at *;generalize l'.length=n' at *
 by_cases hd:d=d'
 · have hq:(td.toList==td'.toList)=true:=by rw[heq];exact aH hd
   have HD:=hid hd;clear heq hd
   go_enter func22,ntmps22
   go_wp2_with fail
   generalize hw1:World.alloc _ _=w1 at *;refine (HK.out _ HB.out).mono ?_;rintro e w2 ⟨rfl,hb⟩;have hX1:=(hb.block _ (ar HX1.out)).trans HX1.out;have hX2:=(hb.block _ (ar HX2.out)).trans HX2.out;have x4:=aa hX1 4;have y4:=aa hX2 4;have HB2:=hid (HB.out.trans (hb.mono HB.out.size));clear hb hX1 hX2 HX1 HX2 HB hw1;cases bk with
   | false=>
     go_wp2
     go_ret
     refine ⟨ret_bool (aD ?_).symm,HB2.out⟩;rintro ⟨-,e⟩;have:=of_decide_eq_false HBK.out;exact this (by rw[e])
   | true=>
     go_wp2_with fail
     refine (HU.out _ HB2.out).mono ?_;rintro e w3 ⟨rfl,hb⟩;have HB3:=hid (HB2.out.trans (hb.mono HB2.out.size));clear hb x4 y4
     go_wp2
     go_ret
     refine ⟨ret_bool ?_,HB3.out⟩;have hk:=of_decide_eq_true HBK.out;cases bu with
     | false=>
       have:=of_decide_eq_false HBU.out;exact (aD (by rintro ⟨-,e⟩;exact this (by rw[e]))).symm
     | true=>exact (aH ⟨HD.out,HIN.out hk (of_decide_eq_true HBU.out)⟩).symm
 · have hq:(td.toList==td'.toList)=false:=by rw[heq];exact aD hd
   have HD:Hid (¬d=d'):=hid hd;clear heq hd
   go_enter func22,ntmps22
   go_wp2
   go_ret
   exact ⟨ret_bool (aD fun e=>HD.out e.1).symm,HB.out⟩
def Ac (s:Int):ByteArray:=if s=1 then ⟨#[]⟩ else ⟨#[48]⟩
theorem A9 (s:Int) (hs:s=1∨s=2∨s=3∨s=4) (w:World):
    Calls prog 8 #[.int .i64 s] w fun e w'=>e=.returned (.tuple #[bh s false (Ac s) noS noS,.int .i64 0])∧Below w.heap.size w w':=by
 unfold bh noS;rcases hs with rfl | rfl | rfl | rfl
 all_goals
  go_enter func8,ntmps8
  go_wp2
  exact jI (E:=0) rfl rfl rfl rfl ⟨_,_,_,rfl⟩ ⟨_,_,_,rfl⟩ (aq w _) ⟨rfl,aO w _⟩
theorem ti0:TI 0=⟨#[48]⟩:=by kernel_rfl
theorem ti3:TI 3=⟨#[51]⟩:=by kernel_rfl
theorem ti7:TI 7=⟨#[55]⟩:=by kernel_rfl
theorem ti2:TI 2=⟨#[50]⟩:=by kernel_rfl
theorem ti1:TI 1=⟨#[49]⟩:=by kernel_rfl
theorem ti5:TI 5=⟨#[53]⟩:=by kernel_rfl
theorem BL:TI (-7)=⟨#[45,55]⟩:=by kernel_rfl
theorem BM:TI (-4)=⟨#[45,52]⟩:=by kernel_rfl
theorem BN:TI (-2)=⟨#[45,50]⟩:=by kernel_rfl
theorem BO:vdF (naF (tsA 1 [(-2,5)])) (tsA 1 [(-2,5)])=true:=by kernel_rfl
theorem BP:(⟨(fAk 1 [(-2,5)] [((-2:Int),(5:Int))].length).toArray⟩:ByteArray)=⟨#[40,115,116,111,114,101,32,40,99,111,110,115,116,32,49,41,32,40,45,32,50,41,32,53,41]⟩:=by kernel_rfl
theorem wN (S:Nat) (w:World) {d:Int} (hd:Sm d):AV S w d [] noS noS:=
 ⟨World.ownsRow_nil _ _ _ _,World.ownsRow_nil _ _ _ _,trivial,hd,(fun p hp=>by cases hp),aM _⟩
theorem Az (w:World):AV w.heap.size ((w.alloc (.cells #[.string (TI (-2))] 9)).alloc (.cells #[.string (TI 5)] 9)) 1 [(-2,5)] (.slice (some ⟨w.heap.size,0,none⟩) 1 1) (.slice (some ⟨w.heap.size+1,0,none⟩) 1 1) where
 ks:=(World.ownsRow_lit w #[.string (TI (-2))] 1 (aj _) (by decide) rfl).alloc _
 us:=by
  have:=World.ownsRow_lit (base:=w.heap.size) (e:=9) (size:=1) (w.alloc (.cells #[.string (TI (-2))] 9)) #[.string (TI 5)] 1 (by simp) (by decide) rfl;rw[show (w.alloc (.cells #[.string (TI (-2))] 9)).heap.size=w.heap.size+1 by simp] at this;exact this
 vd:=show (5:Int)≠1 by decide
 sd:=by unfold Sm;decide
 sl:=fun p hp=>by obtain rfl:=List.mem_singleton.1 hp;unfold Sm;decide
 ln:=by decide
theorem wO (w:World) (hE:Env w):Calls prog 13 #[] w fun e w'=>e=.returned (.bool true)∧Below w.heap.size w w':=by
 have HZ:=hid (A9 4 (by simp) w);rw[show Ac 4=⟨#[48]⟩ from rfl] at HZ;have HSA:=hid fun (W:World) (hW:Below w.heap.size w W)=>wM (d:=0) (x:=3) (v:=7) W (hE.far hW) (wN 0 W (by unfold Sm;decide)).rd (by unfold Sm;decide) (by unfold Sm;decide) (by decide)
 have HSB:=hid fun (W:World) (hW:Below w.heap.size w W) (S:Nat) (k u:Value) (h:AV S W 0 [(3,7)] k u)=>wM (d:=0) (x:=3) (v:=0) W (hE.far hW) h.rd (by unfold Sm;decide) (by unfold Sm;decide) (by decide)
 have HEQ:=hid fun (W:World) (S:Nat) (k u:Value) (h:AV S W 0 [] k u)=>Ay W h.rd (wN 0 W (d:=0) (by unfold Sm;decide)).rd
 have HEV:=hid fun (W:World) (hW:Below w.heap.size w W) (g c:Nat) (hN:NodesAt W g tsD) (hg:g<W.heap.size)=>wF g c W (hE.far hW) hN hg
 have HFO:=hid fun (W:World) (hW:Below w.heap.size w W)=>yL _ (hE.far (hW.trans (((aO W (.cells #[.string (TI (-2))] 9)).trans ((aO (W.alloc (.cells #[.string (TI (-2))] 9)) (.cells #[.string (TI 5)] 9)).mono (by simp))).mono hW.size))) (Az W).rd BO
 rw[BP] at HFO;simp only[show Arx.stA 0 [] 3 7=[(3,7)] from rfl] at HSA;simp only[show Arx.stA 0 [(3,7)] 3 0=[] from rfl] at HSB;rw[ti0,ti3,ti7] at HSA;rw[ti0,ti3] at HSB;rw[ti0] at HEQ;rw[BM] at HEV;rw[ti1,ti5,BN] at HFO;simp only[and_self,decide_true] at HEQ;simp only[bh,noS] at HZ HSA HSB HEQ HEV HFO;clear hE
 go_enter func13,ntmps13
 go_wp2_with fail
 refine HZ.out.mono ?_;rintro e w1 ⟨rfl,hb⟩;have ha:=aO w1 (.cells #[.int .i64 4,.bool false,.string ⟨#[48]⟩,.slice none 0 0,.slice none 0 0] 24);have hx1:=aq w1 (.cells #[.int .i64 4,.bool false,.string ⟨#[48]⟩,.slice none 0 0,.slice none 0 0] 24);have HB1:=hid (hb.trans (ha.mono hb.size));have HX1:=hid hx1;clear HZ hb ha hx1
 go_upto_region 2 with fail
 generalize hs1:w1.heap.size=s1 at *;generalize hw2:w1.alloc _=w2 at *;have x0:=aa HX1.out 0;have x1:=aa HX1.out 1;have x2:=aa HX1.out 2;have x3:=aa HX1.out 3;have x4:=aa HX1.out 4;clear hs1 hw2
 go_wp2_with fail
 refine (HSA.out _ HB1.out).mono ?_;rintro e w3 ⟨ka,ua,rfl,hav,hb⟩;obtain ⟨a1,c1,a2,c2,rfl,rfl⟩:=hav.form;have ha:=aO w3 (.cells #[.int .i64 4,.bool false,.string ⟨#[48]⟩,.slice a1 1 c1,.slice a2 1 c2] 24);have hx2:=aq w3 (.cells #[.int .i64 4,.bool false,.string ⟨#[48]⟩,.slice a1 1 c1,.slice a2 1 c2] 24);have hba:=hb.trans (ha.mono hb.size);have HB2:=hid (HB1.out.trans (hba.mono HB1.out.size));have HX1b:=hid ((hba.block _ (ar HX1.out)).trans HX1.out);have HX2:=hid hx2;have HAV:=hid (hav.far ha);clear hb ha hx2 hba hav x0 x1 x2 x3 x4 HX1 HSA;simp only[aw,aN,Nat.zero_add]
 go_upto_region 3 with fail
 generalize hs3:w3.heap.size=s3 at *;generalize hw4:w3.alloc _=w4 at *;have x0:=aa HX2.out 0;have x1:=aa HX2.out 1;have x2:=aa HX2.out 2;have x3:=aa HX2.out 3;have x4:=aa HX2.out 4;clear hs3 hw4 HB1;have hsb:=HSB.out _ HB2.out _ _ _ HAV.out;simp only[aw,aN,Nat.zero_add] at hsb;clear HSB
 go_wp2_with fail
 refine hsb.mono ?_;rintro e w5 ⟨kb,ub,rfl,hav,hb⟩;obtain ⟨a3,c3,a4,c4,rfl,rfl⟩:=hav.form;have ha:=aO w5 (.cells #[.int .i64 4,.bool false,.string ⟨#[48]⟩,.slice a3 0 c3,.slice a4 0 c4] 24);have hx3:=aq w5 (.cells #[.int .i64 4,.bool false,.string ⟨#[48]⟩,.slice a3 0 c3,.slice a4 0 c4] 24);have hba:=hb.trans (ha.mono hb.size);have HB3:=hid (HB2.out.trans (hba.mono HB2.out.size));have HX1c:=hid ((hba.block _ (ar HX1b.out)).trans HX1b.out);have HX2b:=hid ((hba.block _ (ar HX2.out)).trans HX2.out);have HAVa:=hid (HAV.out.far hba);have HX3:=hid hx3;have HAVb:=hid (hav.far ha);clear hb ha hx3 hba hav x0 x1 x2 x3 x4 HX1b HX2 HAV hsb;simp only[aN]
 go_upto_region 4 with fail
 generalize hs5:w5.heap.size=s5 at *;generalize hw6:w5.alloc _=w6 at *;clear hs5 hw6 HB2;have HNM:=hid (iU 2 ⟨#[45,55]⟩ w6)
 go_wp2_with fail
 refine HNM.out.mono ?_;rintro e w7 ⟨g,rfl,hN,hg,-,hb⟩;have ha:=aO w7 (.cells #[.slice (some ⟨g,0,none⟩) 1 1] 45);have hk:=aq w7 (.cells #[.slice (some ⟨g,0,none⟩) 1 1] 45);have hba:=hb.trans (ha.mono hb.size);have HB4:=hid (HB3.out.trans (hba.mono HB3.out.size))
 have hkds:Kds (w7.alloc (.cells #[.slice (some ⟨g,0,none⟩) 1 1] 45)) (some ⟨w7.heap.size,0,none⟩) w7.heap.size [[⟨3,2,⟨#[]⟩,⟨#[45,55]⟩,0⟩]]:=by
  refine ⟨fun _=>rfl,ar hk,fun j t ht=>?_⟩
  match j,ht with
  | 0,ht=>
    obtain rfl:_=t:=aI ht;exact ⟨g,1,aa hk 0,hN.below ha hg,aC hg ha.size⟩
 have hjn:=m5 ⟨16,0,⟨#[]⟩,⟨#[50]⟩,0⟩ (some ⟨w7.heap.size,0,none⟩) w7.heap.size 1 [[⟨3,2,⟨#[]⟩,⟨#[45,55]⟩,0⟩]] _ hkds (by decide) (by decide);have hjn':Calls prog 36 #[.agg #[.int .i64 16,.int .i64 0,.string ⟨#[]⟩,.string ⟨#[50]⟩,.int .i64 0],.slice (some ⟨w7.heap.size,0,none⟩) 1 1] _ _:=hjn;have HX1d:=hid ((hba.block _ (ar HX1c.out)).trans HX1c.out);have HX2c:=hid ((hba.block _ (ar HX2b.out)).trans HX2b.out);have HX3b:=hid ((hba.block _ (ar HX3.out)).trans HX3.out);have HAVa2:=hid (HAVa.out.far hba);have HAVb2:=hid (HAVb.out.far hba);clear hb ha hk hba hkds hjn hN hg HX1c HX2b HX3 HAVa HAVb HB3 HNM
 go_wp2_with fail
 generalize hw8:w7.alloc _=w8 at *;refine hjn'.mono ?_;rintro e w9 ⟨g2,c9,rfl,hN,hg,-,hb⟩;have HB5:=hid (HB4.out.trans (hb.mono HB4.out.size));have hev:=HEV.out w9 HB5.out g2 (2+c9) (by unfold tsD;rw[ti2,BL];exact hN) hg;have HX1e:=hid ((hb.block _ (ar HX1d.out)).trans HX1d.out);have HX2d:=hid ((hb.block _ (ar HX2c.out)).trans HX2c.out);have HX3c:=hid ((hb.block _ (ar HX3b.out)).trans HX3b.out);have HAVa3:=hid (HAVa2.out.far hb);have HAVb3:=hid (HAVb2.out.far hb);clear hb hN hg hjn' hw8 HX1d HX2c HX3b HAVa2 HAVb2 HB4;simp only[List.flatten_cons,List.flatten_nil,List.append_nil,aw,aN,Nat.zero_add,Nat.reduceAdd]
 go_wp2_with fail
 refine hev.mono ?_;rintro e w10 ⟨rfl,hb⟩;have ha:=aO w10 (.cells #[.int .i64 2,.bool false,.string ⟨#[45,52]⟩,.slice none 0 0,.slice none 0 0] 24);have hx4:=aq w10 (.cells #[.int .i64 2,.bool false,.string ⟨#[45,52]⟩,.slice none 0 0,.slice none 0 0] 24);have hba:=hb.trans (ha.mono hb.size);have HB6:=hid (HB5.out.trans (hba.mono HB5.out.size));have HX1f:=hid ((hba.block _ (ar HX1e.out)).trans HX1e.out);have HX2e:=hid ((hba.block _ (ar HX2d.out)).trans HX2d.out);have HX3d:=hid ((hba.block _ (ar HX3c.out)).trans HX3c.out);have HX4:=hid hx4;have HAVa4:=hid (HAVa3.out.far hba);have HAVb4:=hid (HAVb3.out.far hba);clear hb ha hx4 hba hev HX1e HX2d HX3c HAVa3 HAVb3 HB5
 go_upto_region 5 with fail
 generalize hs10:w10.heap.size=s10 at *;generalize hw11:w10.alloc _=w11 at *;clear hs10 hw11;obtain ⟨ga,ca,gb,cb,ea,eb,-,hv7⟩:=HAVa4.out.cell (j:=0) (by decide);rw[show (TI ([((3:Int),(7:Int))][0]).2)=⟨#[55]⟩ from ti7] at hv7;obtain ⟨rfl,-,rfl⟩:=Value.slice.inj ea;obtain ⟨rfl,-,rfl⟩:=Value.slice.inj eb;have x3:=aa HX2e.out 3;have x4:=aa HX2e.out 4;have y0:=aa HX3d.out 0;have y1:=aa HX3d.out 1;have y2:=aa HX3d.out 2;have y3:=aa HX3d.out 3;have y4:=aa HX3d.out 4;have z0:=aa HX1f.out 0;have z1:=aa HX1f.out 1;have z2:=aa HX1f.out 2;have z3:=aa HX1f.out 3;have z4:=aa HX1f.out 4;have heq:=HEQ.out w11 _ _ _ HAVb4.out;simp only[aN] at heq;clear ea eb
 go_wp2_with fail
 refine heq.mono ?_;rintro e w12 ⟨rfl,hb⟩;have HB7:=hid (HB6.out.trans (hb.mono HB6.out.size));have hx:=(hb.block _ (ar HX4.out)).trans HX4.out;have v2:=aa hx 2;have hfo:=HFO.out w12 HB7.out;have ha1:=aO w12 (.cells #[.string ⟨#[45,50]⟩] 9);have ha2:=aO (w12.alloc (.cells #[.string ⟨#[45,50]⟩] 9)) (.cells #[.string ⟨#[53]⟩] 9);have hba:=ha1.trans (ha2.mono ha1.size);have HB8:=hid (HB7.out.trans (hba.mono HB7.out.size));clear hb hx heq x3 x4 y0 y1 y2 y3 y4 z0 z1 z2 z3 z4 hv7 ha1 ha2 hba
 go_wp2_with fail
 generalize hw13:World.alloc (World.alloc _ _) _=w13 at *;refine hfo.mono ?_;rintro e w14 ⟨rfl,hb⟩;have HB9:=hid (HB8.out.trans (hb.mono HB8.out.size));clear hb hfo v2 hw13
 go_wp2
 go_ret
 exact ⟨rfl,HB9.out⟩
end Go.Proofs.YtpkfnnkbfphfbaaGreatDoor.Se

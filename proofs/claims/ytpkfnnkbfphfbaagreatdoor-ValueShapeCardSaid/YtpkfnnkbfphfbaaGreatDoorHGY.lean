import Derived.Test.YtpkfnnkbfphfbaaGreatDoorHGR
import Derived.Test.YtpkfnnkbfphfbaaGreatDoorHGK
import Derived.Test.YtpkfnnkbfphfbaaGreatDoorHYB
set_option maxRecDepth 100000
set_option maxHeartbeats 40000000
open Go.Lib (hid)
namespace Go.Proofs.YtpkfnnkbfphfbaaGreatDoor.Se
open Go.RowKit Nmx
theorem vv {s:Int} {b:Bool} {num:ByteArray} {ks us:List ByteArray} {k u:Value} (al:Option Addr) (ll cl:Nat) (how:Int) (w:World) (hE:Env w) (hk:RRow w k ks) (hu:RRow w u us) (hl:ArgI w al ll cl):
    Calls Tryz.prog 7 #[bh s b num k u,.slice al ll cl,.int .i64 how] w fun e w'=>e=.returned (.bool true)∧Below w.heap.size w w':=by
 obtain ⟨pk,ck,rfl⟩:=hk.len;obtain ⟨pu,cu,rfl⟩:=hu.len;have hA:=aO w (.cells #[.int .i64 s,.bool b,.string num,.slice pk ks.length ck,.slice pu us.length cu] 24);have HXB:=hid (aq w (.cells #[.int .i64 s,.bool b,.string num,.slice pk ks.length ck,.slice pu us.length cu] 24));have HSM:=hid (vp (s:=s) (b:=b) (num:=num) (w.alloc (.cells #[.int .i64 s,.bool b,.string num,.slice pk ks.length ck,.slice pu us.length cu] 24)) (hk.far hA) (hu.far hA));have HE:=hid hE;have HL:=hid hl;have HK:=hid hk;have HU:=hid hu;have HB0:=hid hA;clear hE hl hk hu hA;obtain ⟨V,hV⟩:∃V,w.heap.size=V:=⟨_,rfl⟩
 have HV:=hid hV;rw[hV] at HXB HB0;unfold bh at HSM ⊢;rw[hV];clear hV
 go_enter Tryz.func7,Tryz.ntmps7
 go_wp2_with fail
 have hsz1:V≤(w.alloc (.cells #[.int .i64 s,.bool b,.string num,.slice pk ks.length ck,.slice pu us.length cu] 24)).heap.size:=by have:=HV.out;simp;omega
 generalize hw1:w.alloc (.cells #[.int .i64 s,.bool b,.string num,.slice pk ks.length ck,.slice pu us.length cu] 24)=w1 at *;rw[HV.out];refine HSM.out.mono ?_;rintro e w2 ⟨⟨r,rfl,hr⟩,hb⟩;have HVS:Hid (r=true→VS w num ks us (.slice pk ks.length ck) (.slice pu us.length cu)):=hid fun e=>let h:=hr e;⟨HK.out,HU.out,h.ln,h.lu,h.sn,h.sk,h.su⟩
 have HB1:=hid (HB0.out.trans (hb.mono hsz1));have HX1:=hid ((hb.block _ (ar HXB.out)).trans HXB.out);have HS2:Hid (V<w2.heap.size):=hid (ar HX1.out);clear hr hb HSM HB0 HXB hsz1 hw1 HK HU;have HEN:Hid (∀W,Below V w W→Env W):=hid fun W h=>HE.out.far (by rw[HV.out];exact h)
 cases r with
 | false=>
   have HAW:=hid (wO w2 (HEN.out _ HB1.out))
   go_wp2_with fail
   refine HAW.out.mono ?_;rintro e w3 ⟨rfl,hb⟩;have HB2:=hid (HB1.out.trans (hb.mono (aL HS2.out)));clear hb
   go_wp2
   go_ret
   exact ⟨rfl,HB2.out⟩
 | true=>
 have HVW:=hid (HVS.out rfl);have HAN:=hid (yT al ll cl w2 (ArgI.belowV HL.out (by rw[HV.out];exact HB1.out)));clear HVS
 go_wp2_with fail
 refine HAN.out.mono ?_;rintro e w3 ⟨v,rfl,⟨sw,bw,nw,kw,uw,kx,ux,rfl,hdv⟩,hb⟩;have hvs:=hdv w3 (fun _ _=>rfl);obtain ⟨pa,qa,rfl⟩:=hvs.kr.len;obtain ⟨pb,qb,rfl⟩:=hvs.ur.len;unfold bh;have ha:=aO w3 (.cells #[.int .i64 sw,.bool bw,.string nw,.slice pa kw.length qa,.slice pb uw.length qb] 24);have hb2:=aO (w3.alloc (.cells #[.int .i64 sw,.bool bw,.string nw,.slice pa kw.length qa,.slice pb uw.length qb] 24)) (.cells #[.int .i64 sw,.bool bw,.string nw,.slice pa kw.length qa,.slice pb uw.length qb] 24);have hs3:V<w3.heap.size:=aC HS2.out hb.size;have HDV:=hid hdv;have HAB:=hid (ha.trans (hb2.mono ha.size));have HXA:=hid ((hb2.block _ (ar (aq w3 (.cells #[.int .i64 sw,.bool bw,.string nw,.slice pa kw.length qa,.slice pb uw.length qb] 24)))).trans (aq w3 (.cells #[.int .i64 sw,.bool bw,.string nw,.slice pa kw.length qa,.slice pb uw.length qb] 24)));have x2:=aq (w3.alloc (.cells #[.int .i64 sw,.bool bw,.string nw,.slice pa kw.length qa,.slice pb uw.length qb] 24)) (.cells #[.int .i64 sw,.bool bw,.string nw,.slice pa kw.length qa,.slice pb uw.length qb] 24);rw[show (w3.alloc (.cells #[.int .i64 sw,.bool bw,.string nw,.slice pa kw.length qa,.slice pb uw.length qb] 24)).heap.size=w3.heap.size+1 by simp] at x2;have HXX:=hid x2
 have HB3:=hid (HB1.out.trans (hb.mono (aL HS2.out)));have HX3:=hid ((hb.block _ (ar HX1.out)).trans HX1.out);have HVA:Hid (V<w3.heap.size):=hid hs3;clear hdv hvs ha hb2 hb x2 hs3 HAN HB1 HX1 HS2
 go_upto_region 5 with fail
 generalize hw5:(World.alloc (World.alloc w3 _) _)=w5 at *;generalize hA:w3.heap.size=A at *;have HA:=hid hA;clear hA hw5;have hm:∃m:Int,mM how 5=m∧(m=0∨m=1∨m=2∨m=3∨m=4):=⟨_,rfl,by unfold mM;omega⟩
 obtain ⟨m,hm,hm5⟩:=hm;have HMD:=hid (ya how 5 w5 (by decide) (by decide));rw[hm] at HMD
 go_wp2_with fail
 refine HMD.out.mono ?_;rintro e w6 ⟨rfl,rfl⟩;clear HMD
 obtain ⟨y0,y1,y2,y3,y4⟩:w6.cell? ⟨V,0,none⟩=some (.int .i64 s)∧w6.cell? ⟨V,1,none⟩=some (.bool b)∧w6.cell? ⟨V,2,none⟩=some (.string num)∧w6.cell? ⟨V,3,none⟩=some (.slice pk ks.length ck)∧w6.cell? ⟨V,4,none⟩=some (.slice pu us.length cu):=by
  have h:=(HAB.out.block _ HVA.out).trans HX3.out;exact ⟨aa h 0,aa h 1,aa h 2,aa h 3,aa h 4⟩
 obtain ⟨z0,z1,z2,z3,z4,f0,f1,f2,f3,f4⟩:=cf5 HXX.out
 have HFAR:Hid (∀(j:Nat) (v:Value),(w6.setCell ⟨A+1,j,none⟩ v).heap[V]? =some (.cells #[.int .i64 s,.bool b,.string num,.slice pk ks.length ck,.slice pu us.length cu] 24 (0,0))∧(w6.setCell ⟨A+1,j,none⟩ v).heap[A]? =some (.cells #[.int .i64 sw,.bool bw,.string nw,.slice pa kw.length qa,.slice pb uw.length qb] 24 (0,0))∧Below V w (w6.setCell ⟨A+1,j,none⟩ v)∧VS (w6.setCell ⟨A+1,j,none⟩ v) num ks us (.slice pk ks.length ck) (.slice pu us.length cu)∧VS (w6.setCell ⟨A+1,j,none⟩ v) nw kw uw (.slice pa kw.length qa) (.slice pb uw.length qb)):=hid fun j v=>by
  have ho:∀g,g≠A+1→(w6.setCell ⟨A+1,j,none⟩ v).heap[g]? =w6.heap[g]? :=fun g hg=>aG _ _ _ _ hg
  have h1:Below V w (w6.setCell ⟨A+1,j,none⟩ v):=(HB3.out.trans (HAB.out.mono (aL HVA.out))).setCell (p:=⟨A+1,j,none⟩) (by have:=HVA.out;show V≤A+1;omega) _;refine ⟨(ho V (by have:=HVA.out;omega)).trans ((HAB.out.block _ HVA.out).trans HX3.out),(ho A (by omega)).trans HXA.out,h1,HVW.out.far (by rw[HV.out];exact h1),HDV.out _ fun g ⟨cs,fr,hh⟩=>?_⟩;have hg:g<A:=by have:=ar hh;rwa [HA.out] at this
  exact (ho g (by omega)).trans (HAB.out.block g hg)
 go_upto_block 0 with fail
 go_cut [28] from 24 to 48 (fun _ wx=>∃(sx:Int) (bx:Bool) (nx:ByteArray) (kx ux:List ByteArray) (kk uu:Value),wx.heap[A+1]? =some (.cells #[.int .i64 sx,.bool bx,.string nx,kk,uu] 24 (0,0))∧VS wx nx kx ux kk uu∧wx.heap[V]? =some (.cells #[.int .i64 s,.bool b,.string num,.slice pk ks.length ck,.slice pu us.length cu] 24 (0,0))∧wx.heap[A]? =some (.cells #[.int .i64 sw,.bool bw,.string nw,.slice pa kw.length qa,.slice pb uw.length qb] 24 (0,0))∧Below V w wx∧VS wx num ks us (.slice pk ks.length ck) (.slice pu us.length cu)∧VS wx nw kw uw (.slice pa kw.length qa) (.slice pb uw.length qb))
 case first=>
  rcases hm5 with rfl | rfl | rfl | rfl | rfl
  · have HM6:=hid (ya s 6 w6 (by decide) (by decide))
    go_wp2_with fail
    refine HM6.out.mono ?_;rintro e w7 ⟨rfl,rfl⟩
    go_wp2_with fail
    go_meet
    case rel=>
     obtain ⟨q1,q2,q3,q4,q5⟩:=HFAR.out 0 (.int .i64 (mM s 6));exact ⟨_,_,_,_,_,_,_,heap_set HXX.out 0 _,q5,q1,q2,q3,q4,q5⟩
  · go_wp2_with fail
    go_meet
    case rel=>
     obtain ⟨q1,q2,q3,q4,q5⟩:=HFAR.out 2 (.string num);exact ⟨_,_,_,_,_,_,_,heap_set HXX.out 2 _,⟨q5.kr,q5.ur,q5.ln,q5.lu,q4.sn,q5.sk,q5.su⟩,q1,q2,q3,q4,q5⟩
  · go_wp2_with fail
    go_meet
    case rel=>
     obtain ⟨q1,q2,q3,q4,q5⟩:=HFAR.out 3 (.slice pk ks.length ck);exact ⟨_,_,_,_,_,_,_,heap_set HXX.out 3 _,⟨q4.kr,q5.ur,q4.ln,q5.lu,q5.sn,q4.sk,q5.su⟩,q1,q2,q3,q4,q5⟩
  · go_wp2_with fail
    go_meet
    case rel=>
     obtain ⟨q1,q2,q3,q4,q5⟩:=HFAR.out 4 (.slice pu us.length cu);exact ⟨_,_,_,_,_,_,_,heap_set HXX.out 4 _,⟨q5.kr,q4.ur,q5.ln,q4.lu,q5.sn,q5.sk,q4.su⟩,q1,q2,q3,q4,q5⟩
  · go_wp2_with fail
    go_meet
    case rel=>
     obtain ⟨q1,q2,q3,q4,q5⟩:=HFAR.out 1 (.bool (!bw));exact ⟨_,_,_,_,_,_,_,heap_set HXX.out 1 _,q5,q1,q2,q3,q4,q5⟩
 case rest=>
 obtain ⟨sx,bx,nx,kx,ux,kk,uu,hbx,hvx,hbv,hbw,hbl,hvv,hvw⟩:=hcut;clear HXX HXA HX3 HAB HDV HVW HFAR HB3 HVA HA hm5 hm y0 y1 y2 y3 y4 z0 z1 z2 z3 z4 f0 f1 f2 f3 f4;obtain ⟨pc,qc,rfl⟩:=hvx.kr.len;obtain ⟨pd,qd,rfl⟩:=hvx.ur.len;obtain ⟨y0,y1,y2,y3,y4,-⟩:=cf5 hbv;obtain ⟨z0,z1,z2,z3,z4,-⟩:=cf5 hbw;obtain ⟨x0,x1,x2,x3,x4,-⟩:=cf5 hbx;have ha:=aO wc (.cells #[.int .i64 s,.bool b,.string num,.slice pk ks.length ck,.slice pu us.length cu,.int .i64 sw,.bool bw,.string nw,.slice pa kw.length qa,.slice pb uw.length qb,.int .i64 sx,.bool bx,.string nx,.slice pc kx.length qc,.slice pd ux.length qd] 24);have hg:=aq wc (.cells #[.int .i64 s,.bool b,.string num,.slice pk ks.length ck,.slice pu us.length cu,.int .i64 sw,.bool bw,.string nw,.slice pa kw.length qa,.slice pb uw.length qb,.int .i64 sx,.bool bx,.string nx,.slice pc kx.length qc,.slice pd ux.length qd] 24);have HBX:=hid ((ha.block _ (ar hbx)).trans hbx);have HBV:=hid ((ha.block _ (ar hbv)).trans hbv);have HBW:=hid ((ha.block _ (ar hbw)).trans hbw);have HVX:=hid (hvx.far ha);have HVV:=hid (hvv.far ha);have HVWw:=hid (hvw.far ha);have hvl:V<wc.heap.size:=ar hbv;have HBL:=hid (hbl.trans (ha.mono (aL hvl)))
 have HCL:Hid (∀i,i<3→∃(s1:Int) (b1:Bool) (n1:ByteArray) (k1 u1:List ByteArray) (kv uv:Value),VS (wc.alloc (.cells #[.int .i64 s,.bool b,.string num,.slice pk ks.length ck,.slice pu us.length cu,.int .i64 sw,.bool bw,.string nw,.slice pa kw.length qa,.slice pb uw.length qb,.int .i64 sx,.bool bx,.string nx,.slice pc kx.length qc,.slice pd ux.length qd] 24)) n1 k1 u1 kv uv∧(wc.alloc (.cells #[.int .i64 s,.bool b,.string num,.slice pk ks.length ck,.slice pu us.length cu,.int .i64 sw,.bool bw,.string nw,.slice pa kw.length qa,.slice pb uw.length qb,.int .i64 sx,.bool bx,.string nx,.slice pc kx.length qc,.slice pd ux.length qd] 24)).cell? ⟨wc.heap.size,i*5,none⟩=some (.int .i64 s1)∧(wc.alloc (.cells #[.int .i64 s,.bool b,.string num,.slice pk ks.length ck,.slice pu us.length cu,.int .i64 sw,.bool bw,.string nw,.slice pa kw.length qa,.slice pb uw.length qb,.int .i64 sx,.bool bx,.string nx,.slice pc kx.length qc,.slice pd ux.length qd] 24)).cell? ⟨wc.heap.size,i*5+1,none⟩=some (.bool b1)∧(wc.alloc (.cells #[.int .i64 s,.bool b,.string num,.slice pk ks.length ck,.slice pu us.length cu,.int .i64 sw,.bool bw,.string nw,.slice pa kw.length qa,.slice pb uw.length qb,.int .i64 sx,.bool bx,.string nx,.slice pc kx.length qc,.slice pd ux.length qd] 24)).cell? ⟨wc.heap.size,i*5+2,none⟩=some (.string n1)∧(wc.alloc (.cells #[.int .i64 s,.bool b,.string num,.slice pk ks.length ck,.slice pu us.length cu,.int .i64 sw,.bool bw,.string nw,.slice pa kw.length qa,.slice pb uw.length qb,.int .i64 sx,.bool bx,.string nx,.slice pc kx.length qc,.slice pd ux.length qd] 24)).cell? ⟨wc.heap.size,i*5+3,none⟩=some kv∧(wc.alloc (.cells #[.int .i64 s,.bool b,.string num,.slice pk ks.length ck,.slice pu us.length cu,.int .i64 sw,.bool bw,.string nw,.slice pa kw.length qa,.slice pb uw.length qb,.int .i64 sx,.bool bx,.string nx,.slice pc kx.length qc,.slice pd ux.length qd] 24)).cell? ⟨wc.heap.size,i*5+4,none⟩=some uv):=hid fun i hi=>by
  match i,hi with
  | 0,_=>exact ⟨_,_,_,_,_,_,_,hvv.far ha,aa hg 0,aa hg 1,aa hg 2,aa hg 3,aa hg 4⟩
  | 1,_=>exact ⟨_,_,_,_,_,_,_,hvw.far ha,aa hg 5,aa hg 6,aa hg 7,aa hg 8,aa hg 9⟩
  | 2,_=>exact ⟨_,_,_,_,_,_,_,hvx.far ha,aa hg 10,aa hg 11,aa hg 12,aa hg 13,aa hg 14⟩
 go_upto_region 16 with fail
 generalize wc.alloc (.cells #[.int .i64 s,.bool b,.string num,.slice pk ks.length ck,.slice pu us.length cu,.int .i64 sw,.bool bw,.string nw,.slice pa kw.length qa,.slice pb uw.length qb,.int .i64 sx,.bool bx,.string nx,.slice pc kx.length qc,.slice pd ux.length qd] 24)=wd at *;generalize wc.heap.size=G at *;clear hbx hbv hbw hvx hvv hvw hbl ha hg y0 y1 y2 y3 y4 z0 z1 z2 z3 z4 x0 x1 x2 x3 x4 hvl;have HVD:Hid (V≤wd.heap.size):=hid (aL (ar HBV.out));have HEW:Hid (∀W,Below wd.heap.size wd W→Env W):=hid fun W h=>HEN.out W (HBL.out.trans (h.mono HVD.out))
 clear HEN
 go_wp2_with fail
 go_loopg [10] 3 (fun gh v wr=>∃(i:Nat),gh=3-i∧i≤3∧v=.int .i64 i∧Below wd.heap.size wd wr)
 case atStart=>exact ⟨0,rfl,aM _,rfl,am _ _⟩
 case round=>
  obtain ⟨i,rfl,hi,rfl,hb⟩:=hrel;have HB:=hid hb;clear hb;have hi0:(0:Int)≤(i:Int):=by omega
  by_cases hlt:i<3
  · have hlt':(i:Int)<3:=by omega
    obtain ⟨s1,b1,n1,k1,u1,kv,uv,hvs,c0,c1,c2,c3,c4⟩:=HCL.out i hlt;obtain ⟨pe,qe,rfl⟩:=hvs.kr.len;obtain ⟨pf,qf,rfl⟩:=hvs.ur.len;have HC:Hid (∀W,Below wd.heap.size wd W→W.cell? ⟨G,i*5,none⟩=some (.int .i64 s1)∧W.cell? ⟨G,i*5+1,none⟩=some (.bool b1)∧W.cell? ⟨G,i*5+2,none⟩=some (.string n1)∧W.cell? ⟨G,i*5+3,none⟩=some (.slice pe k1.length qe)∧W.cell? ⟨G,i*5+4,none⟩=some (.slice pf u1.length qf)):=hid fun W hW=>⟨(hW.cell (World.block_lt_of_cell? _ _ c0)).trans c0,(hW.cell (World.block_lt_of_cell? _ _ c1)).trans c1,(hW.cell (World.block_lt_of_cell? _ _ c2)).trans c2,(hW.cell (World.block_lt_of_cell? _ _ c3)).trans c3,(hW.cell (World.block_lt_of_cell? _ _ c4)).trans c4⟩
    obtain ⟨ts,er,hts,hT,hR,-⟩:=nQ (s:=s1) (b:=b1) wd (HEW.out _ (am _ _)) hvs;obtain ⟨txt,hF,hG⟩:=qy (s:=s1) (b:=b1) wd (HEW.out _ (am _ _)) hvs;have HV1:=hid fun (W:World) (hW:Below wd.heap.size wd W)=>sr (s:=s1) (b:=b1) W (HEW.out W hW) (hvs.far hW)
    have HV2:=hid fun (W:World) (hW:Below wd.heap.size wd W)=>kC (s:=s1) (b:=b1) W (hvs.far hW)
    unfold bh at hT hR hF hG HV1 HV2;have HF:=hid hF;have HG:=hid hG;have HT:=hid hT;have HR:=hid hR;have HTS:=hid hts;generalize vlV s1 b1 n1 k1 u1=qv at *;generalize k1.length=nk at *;generalize u1.length=nu at *;clear hvs c0 c1 c2 c3 c4 hT hR hF hG hts;obtain ⟨c0,c1,c2,c3,c4⟩:=HC.out wr HB.out
    go_wp2_with fail
    refine (HT.out wr HB.out).mono ?_;rintro e w1 ⟨⟨ao,ca,rfl,hn1⟩,hb⟩;have HB1:=hid (HB.out.trans (hb.mono HB.out.size));have HN1:=hid (uk hn1);clear hb hn1 c0 c1 c2 c3 c4;obtain ⟨c0,c1,c2,c3,c4⟩:=HC.out w1 HB1.out
    go_wp2_with fail
    refine (HR.out w1 HB1.out).mono ?_;rintro e w2 ⟨⟨ap,cb,rfl,hn2⟩,hb⟩;have HB2:=hid (HB1.out.trans (hb.mono HB1.out.size));have HN2:=hid (uk hn2);have HN1':=hid (HN1.out.below hb (aj _));clear hb hn2 c0 c1 c2 c3 c4 HN1;have HEQ:=hid fun (W:World) (hW:Below w2.heap.size w2 W)=>pW ao ap ca cb ts ts W (HN1'.out.below hW (aj _)) (HN2.out.below hW (aj _)) (by have:=HTS.out;omega) (by have:=HTS.out;omega)
    rw[show (dA ts ts==0)=true from by rw[BY.refl ts];rfl] at HEQ;have hqt:(txt.toList==txt.toList)=true:=beq_self_eq_true _;generalize ts.length=nt at *;have HZ:Hid (∀W,Below w2.heap.size w2 W→Below wd.heap.size wd W):=hid fun W h=>HB2.out.trans (h.mono HB2.out.size)
    clear HT HR
    go_upto_region 21 with fail
    refine cU (fun W=>Below w2.heap.size w2 W) (by kernel_rfl) (by kernel_rfl) (am _ _).drew ?_
    repeat (first
     | (refine d9 ?_ ?_
        · (go_simp;done)
        simp only[Act.put,ac,ag,ah])
     | (refine dT (v:= ?_) ?_ ?_ ?_
        rotate_left
        · (go_simp;done)
        · intro W hW;obtain ⟨c0,c1,c2,c3,c4⟩:=HC.out W (HZ.out W hW)
          go_simp
          first
          | with_reducible rfl
          | (go_at_call 12;with_reducible refine (HV1.out W (HZ.out W hW)).mono ?_;rintro e u ⟨rfl,hb⟩;refine ⟨?_,hW.trans (hb.mono hW.size)⟩;with_reducible rfl)
          | (go_at_call 26;with_reducible refine (HV2.out W (HZ.out W hW)).mono ?_;rintro e u ⟨rfl,hb⟩;refine ⟨?_,hW.trans (hb.mono hW.size)⟩;with_reducible rfl)
          | (go_at_call 27;with_reducible refine (HEQ.out W hW).mono ?_;rintro e u ⟨rfl,hb⟩;refine ⟨?_,hW.trans (hb.mono hW.size)⟩;with_reducible rfl)
          | (go_at_call 28;with_reducible refine (HF.out W (HZ.out W hW)).mono ?_;rintro e u ⟨rfl,hb⟩;refine ⟨?_,hW.trans (hb.mono hW.size)⟩;with_reducible rfl)
          | (go_at_call 29;with_reducible refine (HG.out W (HZ.out W hW)).mono ?_;rintro e u ⟨rfl,hb⟩;refine ⟨?_,hW.trans (hb.mono hW.size)⟩;with_reducible rfl)
        simp only[Act.put,ac,ag,ah]))
    refine fu ?_;intro w3 hw3;have HB3:=hid (HZ.out w3 hw3);clear hw3
    go_wp2_with fail
    go_roundg (3-(i+1))
    case rel=>exact ⟨i+1,rfl,by omega,by go_num,HB3.out⟩
    case measure=>omega
  · have hlt':¬((i:Int)<3):=by omega
    go_upto_region 23 with fail
    have HQ1:=hid fun (W:World) (hW:Below wr.heap.size wr W)=>kE (s:=s) (s':=sw) (b:=b) (b':=bw) W (HVV.out.far (HB.out.trans (hW.mono HB.out.size))).vr (HVWw.out.far (HB.out.trans (hW.mono HB.out.size))).vr
    have HQ2:=hid fun (W:World) (hW:Below wr.heap.size wr W)=>jo (s:=s) (s':=sw) (b:=b) (b':=bw) W (HVV.out.far (HB.out.trans (hW.mono HB.out.size))).vr (HVWw.out.far (HB.out.trans (hW.mono HB.out.size))).vr
    have HQ3:=hid fun (W:World) (hW:Below wr.heap.size wr W)=>kE (s:=sw) (s':=sx) (b:=bw) (b':=bx) W (HVWw.out.far (HB.out.trans (hW.mono HB.out.size))).vr (HVX.out.far (HB.out.trans (hW.mono HB.out.size))).vr
    have HQ4:=hid fun (W:World) (hW:Below wr.heap.size wr W)=>jo (s:=sw) (s':=sx) (b:=bw) (b':=bx) W (HVWw.out.far (HB.out.trans (hW.mono HB.out.size))).vr (HVX.out.far (HB.out.trans (hW.mono HB.out.size))).vr
    have HQ5:=hid fun (W:World) (hW:Below wr.heap.size wr W)=>kE (s:=s) (s':=s) (b:=b) (b':=b) W (HVV.out.far (HB.out.trans (hW.mono HB.out.size))).vr (HVV.out.far (HB.out.trans (hW.mono HB.out.size))).vr
    have HAW:=hid fun (W:World) (hW:Below wr.heap.size wr W)=>wO W (HEW.out W (HB.out.trans (hW.mono HB.out.size)))
    rw[show eqV s s b b num num ks ks us us=true by simp[eqV]] at HQ5;have HZ:Hid (∀W,Below wr.heap.size wr W→Below wd.heap.size wd W):=hid fun W h=>HB.out.trans (h.mono HB.out.size)
    unfold bh at HQ1 HQ2 HQ3 HQ4 HQ5;generalize eqV s sw b bw num nw ks kw us uw=q1 at *;generalize eqV sw sx bw bx nw nx kw kx uw ux=q2 at *
    have HKV:Hid (∀W,Below wr.heap.size wr W→W.cell? ⟨V,0,none⟩=some (.int .i64 s)∧W.cell? ⟨V,1,none⟩=some (.bool b)∧W.cell? ⟨V,2,none⟩=some (.string num)∧W.cell? ⟨V,3,none⟩=some (.slice pk ks.length ck)∧W.cell? ⟨V,4,none⟩=some (.slice pu us.length cu)):=hid fun W hW=>by
     have h:=((HZ.out W hW).block _ (ar HBV.out)).trans HBV.out;exact ⟨aa h 0,aa h 1,aa h 2,aa h 3,aa h 4⟩
    have HKW:Hid (∀W,Below wr.heap.size wr W→W.cell? ⟨A,0,none⟩=some (.int .i64 sw)∧W.cell? ⟨A,1,none⟩=some (.bool bw)∧W.cell? ⟨A,2,none⟩=some (.string nw)∧W.cell? ⟨A,3,none⟩=some (.slice pa kw.length qa)∧W.cell? ⟨A,4,none⟩=some (.slice pb uw.length qb)):=hid fun W hW=>by
     have h:=((HZ.out W hW).block _ (ar HBW.out)).trans HBW.out;exact ⟨aa h 0,aa h 1,aa h 2,aa h 3,aa h 4⟩
    have HKX:Hid (∀W,Below wr.heap.size wr W→W.cell? ⟨A+1,0,none⟩=some (.int .i64 sx)∧W.cell? ⟨A+1,1,none⟩=some (.bool bx)∧W.cell? ⟨A+1,2,none⟩=some (.string nx)∧W.cell? ⟨A+1,3,none⟩=some (.slice pc kx.length qc)∧W.cell? ⟨A+1,4,none⟩=some (.slice pd ux.length qd)):=hid fun W hW=>by
     have h:=((HZ.out W hW).block _ (ar HBX.out)).trans HBX.out;exact ⟨aa h 0,aa h 1,aa h 2,aa h 3,aa h 4⟩
    refine cU (fun W=>Below wr.heap.size wr W) (by kernel_rfl) (by kernel_rfl) (am _ _).drew ?_
    repeat (first
     | (refine d9 ?_ ?_
        · (go_simp;done)
        simp only[Act.put,ac,ag,ah])
     | (refine dT (v:= ?_) ?_ ?_ ?_
        rotate_left
        · (go_simp;done)
        · intro W hW
          first
          | (go_simp;with_reducible rfl)
          | (obtain ⟨x0,x1,x2,x3,x4⟩:=HKV.out W hW;go_simp;with_reducible rfl)
          | (obtain ⟨x0,x1,x2,x3,x4⟩:=HKW.out W hW;go_simp;with_reducible rfl)
          | (obtain ⟨x0,x1,x2,x3,x4⟩:=HKX.out W hW;go_simp;with_reducible rfl)
          | (go_simp;go_at_call 22;(first | with_reducible refine (HQ1.out W hW).mono ?_ | with_reducible refine (HQ3.out W hW).mono ?_ | with_reducible refine (HQ5.out W hW).mono ?_);rintro e u ⟨rfl,hb⟩;refine ⟨?_,hW.trans (hb.mono hW.size)⟩;with_reducible rfl)
          | (go_simp;go_at_call 11;(first | with_reducible refine (HQ2.out W hW).mono ?_ | with_reducible refine (HQ4.out W hW).mono ?_);rintro e u ⟨rfl,hb⟩;refine ⟨?_,hW.trans (hb.mono hW.size)⟩;with_reducible rfl)
          | (go_simp;go_at_call 13;with_reducible refine (HAW.out W hW).mono ?_;rintro e u ⟨rfl,hb⟩;refine ⟨?_,hW.trans (hb.mono hW.size)⟩;with_reducible rfl)
        simp only[Act.put,ac,ag,ah]))
    refine fu ?_;intro w3 hw3;have HBF:Hid (Below V w w3):=hid (HBL.out.trans ((HZ.out w3 hw3).mono HVD.out));clear hw3
    go_wp2
    go_ret
    exact ⟨rfl,HBF.out⟩
end Go.Proofs.YtpkfnnkbfphfbaaGreatDoor.Se

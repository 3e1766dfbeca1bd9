/- ValueArrays: its walk. -/
import Derived.Test.YtpkfnnkbfphfbaaGreatDoorGGL
set_option maxRecDepth 100000
set_option maxHeartbeats 40000000
namespace Go.Proofs.YtpkfnnkbfphfbaaGreatDoor.Se
open Go.RowKit Nmx

structure BV (B:Nat) (s:Int) (b:Bool) (t:ByteArray) (ts us:List ByteArray) (k u:Value) (W:World):Prop where
  bx:W.heap[B]? =some (.cells #[.int .i64 s,.bool b,.string t,k,u] 24 (0,0))
  vr:VR W t ts us k u
section
variable {B:Nat} {s:Int} {b:Bool} {t:ByteArray} {ts us:List ByteArray} {k u:Value} {W W':World}
theorem BV.far (h:BV B s b t ts us k u W) (hb:Below W.heap.size W W'):BV B s b t ts us k u W':=⟨(hb.block _ (lt_of_heap h.bx)).trans h.bx,h.vr.far hb⟩
theorem BV.cells (h:BV B s b t ts us k u W):W.cell? ⟨B,0,none⟩=some (.int .i64 s)∧W.cell? ⟨B,1,none⟩=some (.bool b)∧W.cell? ⟨B,2,none⟩=some (.string t)∧W.cell? ⟨B,3,none⟩=some k∧W.cell? ⟨B,4,none⟩=some u:=by
  exact ⟨heap_cell h.bx 0,heap_cell h.bx 1,heap_cell h.bx 2,heap_cell h.bx 3,heap_cell h.bx 4⟩
end
section
theorem arr_law {s:Int} {b:Bool} {num:ByteArray} {ks us:List ByteArray} {k u:Value} (i n:ByteArray) (al:Option Addr) (ll cl:Nat) (am:Option Addr) (lm cm:Nat) (w:World) (hE:Env w) (hk:RRow w k ks) (hu:RRow w u us) (hl:ArgI w al ll cl) (hm:ArgI w am lm cm):
    Calls Tryz.prog 4 #[valV s b num k u,.string i,.string n,.slice al ll cl,.slice am lm cm] w fun e w'=>e=.returned (.bool true)∧Below w.heap.size w w':=by
  obtain ⟨pk,ck,rfl⟩:=hk.len
  obtain ⟨pu,cu,rfl⟩:=hu.len
  have hA:=alloc_far' w (.cells #[.int .i64 s,.bool b,.string num,.slice pk ks.length ck,.slice pu us.length cu] 24)
  have HXB:=Lib.hid (heap_alloc_new w (.cells #[.int .i64 s,.bool b,.string num,.slice pk ks.length ck,.slice pu us.length cu] 24))
  have HSM:=Lib.hid (small_any (s:=s) (b:=b) (num:=num) (w.alloc (.cells #[.int .i64 s,.bool b,.string num,.slice pk ks.length ck,.slice pu us.length cu] 24)) (hk.far hA) (hu.far hA))
  have HE:=Lib.hid hE
  have HL:=Lib.hid hl
  have HM:=Lib.hid hm
  have HK:=Lib.hid hk
  have HU:=Lib.hid hu
  have HB0:=Lib.hid hA
  clear hE hl hm hk hu hA
  obtain ⟨V,hV⟩:∃V,w.heap.size=V:=⟨_,rfl⟩
  have HV:=Lib.hid hV
  rw[hV] at HXB HB0
  unfold valV at HSM ⊢
  rw[hV]
  clear hV
  go_enter Tryz.func4,Tryz.ntmps4
  go_wp2_with fail
  have hsz1:V≤(w.alloc (.cells #[.int .i64 s,.bool b,.string num,.slice pk ks.length ck,.slice pu us.length cu] 24)).heap.size:=by have:=HV.out;simp;omega
  generalize hw1:w.alloc (.cells #[.int .i64 s,.bool b,.string num,.slice pk ks.length ck,.slice pu us.length cu] 24)=w1 at *
  rw[HV.out]
  refine HSM.out.mono ?_
  rintro e w2 ⟨⟨r,rfl,hr⟩,hb⟩
  have HVS:Hid (r=true→VS w num ks us (.slice pk ks.length ck) (.slice pu us.length cu)):=Lib.hid fun e=>let h:=hr e;⟨HK.out,HU.out,h.ln,h.lu,h.sn,h.sk,h.su⟩
  have HB1:=Lib.hid (HB0.out.trans (hb.mono hsz1))
  have HX1:=Lib.hid ((hb.block _ (lt_of_heap HXB.out)).trans HXB.out)
  have HS2:Hid (V<w2.heap.size):=Lib.hid (lt_of_heap HX1.out)
  clear hr hb HSM HB0 HXB hsz1 hw1 HK HU
  have HEN:Hid (∀W,Below V w W→Env W):=Lib.hid fun W h=>HE.out.far (by rw[HV.out];exact h)
  have HAW:=Lib.hid (awakeV w2 (HEN.out _ HB1.out))
  by_cases hcs:r=true∧i.size≤50∧n.size≤50
  rotate_left
  · have hcc:r=false∨(r=true∧(50:Int)<(i.size:Int))∨(r=true∧¬(50:Int)<(i.size:Int)∧(50:Int)<(n.size:Int)):=by
      cases r with
      | false=>exact .inl rfl
      | true=>
        by_cases h1:i.size≤50
        · refine .inr (.inr ⟨rfl,by omega,?_⟩)
          have:¬n.size≤50:=fun h=>hcs ⟨rfl,h1,h⟩
          omega
        · exact .inr (.inl ⟨rfl,by omega⟩)
    clear hcs HVS HX1
    rcases hcc with rfl | ⟨rfl,h1⟩ | ⟨rfl,h1,h2⟩
    all_goals
      go_wp2_with fail
      refine HAW.out.mono ?_
      rintro e w3 ⟨rfl,hb⟩
      have HB2:=Lib.hid (HB1.out.trans (hb.mono (Nat.le_of_lt HS2.out)))
      clear hb
      go_wp2
      go_ret
      exact ⟨rfl,HB2.out⟩
  obtain ⟨rfl,hi50,hn50⟩:=hcs
  have hi5:¬(50:Int)<(i.size:Int):=by omega
  have hn5:¬(50:Int)<(n.size:Int):=by omega
  have HI:=Lib.hid hi50
  have HN:=Lib.hid hn50
  have HVW:=Lib.hid (HVS.out rfl)
  clear HVS HAW hi50 hn50
  have HMa:=Lib.hid (ArgI.belowV HM.out (by rw[HV.out];exact HB1.out))
  have hnew:=new_any am lm cm w2 HMa.out
  have hch0:=ch_newV HMa.out
  unfold NewPost at hnew
  have hal:=alloc_far' w2 (.cells #[.slice am (min lm 400) cm,.int .i64 0] 60)
  have HX2:=Lib.hid ((hal.block _ (lt_of_heap HX1.out)).trans HX1.out)
  have HB2:=Lib.hid (HB1.out.trans (hal.mono (Nat.le_of_lt HS2.out)))
  have hsz3:(w2.alloc (.cells #[.slice am (min lm 400) cm,.int .i64 0] 60)).heap.size=w2.heap.size+1:=by simp
  obtain ⟨C,hC⟩:∃C,w2.heap.size=C:=⟨_,rfl⟩
  rw[hC] at hnew hch0 hsz3 HS2
  generalize hw3:w2.alloc (.cells #[.slice am (min lm 400) cm,.int .i64 0] 60)=w3 at *
  have HSZ3:=Lib.hid hsz3
  have HCH:=Lib.hid hch0
  clear hw3 hC hch0 hal hsz3 HMa HX1 HB1
  go_wp2_with fail
  refine hnew.mono ?_
  rintro e w4 ⟨rfl,rfl⟩
  clear hnew
  have HLa:=Lib.hid (ArgI.belowV HL.out (by rw[HV.out];exact HB2.out))
  have hnew:=new_any al ll cl w4 HLa.out
  have hch0:=ch_newV HLa.out
  unfold NewPost at hnew
  have hal:=alloc_far' w4 (.cells #[.slice al (min ll 400) cl,.int .i64 0] 60)
  have HX4:=Lib.hid ((hal.block _ (lt_of_heap HX2.out)).trans HX2.out)
  have HB4:=Lib.hid (HB2.out.trans (hal.mono (Nat.le_of_lt (lt_of_heap HX2.out))))
  have HCH4:=Lib.hid (HCH.out.call hal)
  have hsz5:(w4.alloc (.cells #[.slice al (min ll 400) cl,.int .i64 0] 60)).heap.size=w4.heap.size+1:=by simp
  obtain ⟨D,hD⟩:∃D,w4.heap.size=D:=⟨_,rfl⟩
  rw[hD] at hnew hch0 hsz5 HSZ3
  generalize hw5:w4.alloc (.cells #[.slice al (min ll 400) cl,.int .i64 0] 60)=w5 at *
  have HSZ5:=Lib.hid hsz5
  have HCD:=Lib.hid hch0
  clear hw5 hD hch0 hal hsz5 HLa HX2 HB2 HCH
  go_wp2_with fail
  refine hnew.mono ?_
  rintro e w6 ⟨rfl,rfl⟩
  clear hnew
  have HGA:=Lib.hid (genArr D al (min ll 400) cl w6 HCD.out)
  go_wp2_with fail
  refine HGA.out.mono ?_
  rintro e w7 ⟨d,l,k0,u0,rfl,hav,hl3,hch,hg⟩
  obtain ⟨a1,c1,a2,c2,rfl,rfl⟩:=hav.form
  unfold valV
  have ha:=alloc_far' w7 (.cells #[.int .i64 4,.bool false,.string (TI d),.slice a1 l.length c1,.slice a2 l.length c2] 24)
  have hgs:=hg.size
  have hx7:=(hg.block _ (lt_of_heap HX4.out) (fun e=>by have:=Option.some.inj e;have:=HS2.out;have:=HSZ3.out;omega)).trans HX4.out
  have HX8:=Lib.hid ((ha.block _ (lt_of_heap hx7)).trans hx7)
  have hb7:=HB4.out.grown hg (Nat.le_of_lt (lt_of_heap HX4.out)) (fun k e=>by have:=Option.some.inj e;have:=HS2.out;have:=HSZ3.out;omega)
  have HB8:=Lib.hid (hb7.trans (ha.mono (by have:=lt_of_heap hx7;omega)))
  have HCH8:=Lib.hid ((HCH4.out.grown hg (fun k e=>by have:=Option.some.inj e;have:=HSZ3.out;omega)).call ha)
  have HBA:Hid (BXA (D+1) w7.heap.size d (TI d) l (.slice a1 l.length c1) (.slice a2 l.length c2) (w7.alloc (.cells #[.int .i64 4,.bool false,.string (TI d),.slice a1 l.length c1,.slice a2 l.length c2] 24))):=Lib.hid ⟨heap_alloc_new w7 _,(hav.down (by have:=HSZ5.out;omega)).far ha⟩
  have HL3:Hid (l.length≤3):=Lib.hid hl3
  have HCA:Hid (C<D+1∧C<w7.heap.size∧V<C):=Lib.hid (by have:=HSZ3.out;have:=HSZ5.out;have:=HS2.out;omega)
  clear hav hl3 hch hg ha hgs hx7 hb7 HGA HCD HX4 HB4 HCH4 HSZ3 HSZ5 HS2
  go_upto_region 5 with fail
  generalize hA:w7.heap.size=A at *
  generalize hw8:w7.alloc (.cells #[.int .i64 4,.bool false,.string (TI d),.slice a1 l.length c1,.slice a2 l.length c2] 24)=w8 at *
  clear hA hw8
  have HI9:=Lib.hid (integer_any C am (min lm 400) cm w8 HCH8.out)
  go_wp2_with fail
  refine HI9.out.mono ?_
  rintro e w9 ⟨j,hj,rfl,hch,hg⟩
  have HSj:Hid (Sm j):=Lib.hid (Nat.lt_trans hj (by decide))
  have HCH9:=Lib.hid hch
  have HBA9:=Lib.hid (HBA.out.ch HCA.out.1 HCA.out.2.1 hg)
  have HX9:=Lib.hid ((hg.block _ (lt_of_heap HX8.out) (fun e=>by have:=Option.some.inj e;have:=HCA.out.2.2;omega)).trans HX8.out)
  have HB9:=Lib.hid (HB8.out.grown hg (Nat.le_of_lt (lt_of_heap HX8.out)) (fun k e=>by have:=Option.some.inj e;have:=HCA.out.2.2;omega))
  clear hj hch hg HI9 HCH8 HBA HX8 HB8
  have HI10:=Lib.hid (integer_any C am (min lm 400) cm w9 HCH9.out)
  go_wp2_with fail
  refine HI10.out.mono ?_
  rintro e w10 ⟨m,hm,rfl,hch,hg⟩
  have HSm:Hid (Sm m):=Lib.hid (Nat.lt_trans hm (by decide))
  have HCH10:=Lib.hid hch
  have HBA10:=Lib.hid (HBA9.out.ch HCA.out.1 HCA.out.2.1 hg)
  have HX10:=Lib.hid ((hg.block _ (lt_of_heap HX9.out) (fun e=>by have:=Option.some.inj e;have:=HCA.out.2.2;omega)).trans HX9.out)
  have HB10:=Lib.hid (HB9.out.grown hg (Nat.le_of_lt (lt_of_heap HX9.out)) (fun k e=>by have:=Option.some.inj e;have:=HCA.out.2.2;omega))
  clear hm hch hg HI10 HCH9 HBA9 HX9 HB9
  have HVS:=Lib.hid (HVW.out.far (by rw[HV.out];exact HB10.out))
  have HEW:Hid (∀W,Below w10.heap.size w10 W→Env W):=Lib.hid fun W h=>HEN.out W (HB10.out.trans (h.mono (Nat.le_of_lt (lt_of_heap HX10.out))))
  have HEN10:=HEW.out _ (Below.refl _ _)
  obtain ⟨s1,t1,ts1,us1,er1,hS1,hR1⟩:=store_both (s:=s) (b:=b) w10 HEN10 HVS.out HI.out HN.out
  obtain ⟨s2,t2,ts2,us2,er2,hS2,hR2⟩:=store_ar w10 HEN10 HBA10.out.2.rd HSj.out HSm.out (by have:=HL3.out;omega)
  obtain ⟨ta,hta⟩:=at_both (s:=s) (b:=b) w10 HEN10 HVS.out HI.out
  obtain ⟨tb,htb⟩:=at_sm2 w10 HEN10 HBA10.out.2.rd HSj.out
  obtain ⟨tc,htc⟩:=at_ar w10 HEN10 HBA10.out.2.rd HI.out
  have HBVv:Hid (BV V s b num ks us (.slice pk ks.length ck) (.slice pu us.length cu) w10):=Lib.hid ⟨HX10.out,HVS.out.vr⟩
  have HBVa:Hid (BV A 4 false (TI d) (kT l) (vT l) (.slice a1 l.length c1) (.slice a2 l.length c2) w10):=Lib.hid ⟨HBA10.out.1,HBA10.out.2.rd.vr⟩
  rw[show TX (j:Rat)=TI j from rfl,show TX (m:Rat)=TI m from rfl]
  generalize TI j=tj at *
  generalize TI m=tm at *
  generalize TI d=td at *
  unfold valV at hS1 hR1 hS2 hR2 hta htb htc
  unfold AtB at hta htb htc
  have HS1:=Lib.hid hS1
  have HR1:=Lib.hid hR1
  have HS2:=Lib.hid hS2
  have HR2:=Lib.hid hR2
  have HTA:=Lib.hid hta
  have HTB:=Lib.hid htb
  have HTC:=Lib.hid htc
  have HBW:Hid (Below V w w10):=HB10
  have HVZ:Hid (V≤w10.heap.size):=Lib.hid (Nat.le_of_lt (lt_of_heap HX10.out))
  clear HEN10 hS1 hR1 hS2 hR2 hta htb htc HVS HX10 HB10 HBA10 HCH10 HI HN HSj HSm HEN HVW
  go_upto_region 6 with fail
  obtain ⟨HBC⟩:Nonempty (Hid (Below w10.heap.size w10 w10)):=⟨Lib.hid (Below.refl _ _)⟩
  obtain ⟨x0,x1,x2,x3,x4⟩:=(HBVv.out.far HBC.out).cells
  go_wp2_with fail
  refine (HS1.out w10 HBC.out).mono ?_
  rintro e v11 ⟨⟨k11,u11,rfl,hvr⟩,hb⟩
  obtain ⟨p11,q11,rfl⟩:=hvr.kr.len
  obtain ⟨p'11,q'11,rfl⟩:=hvr.ur.len
  unfold valV
  have ha:=alloc_far' v11 (.cells #[.int .i64 s1,.bool false,.string t1,.slice p11 ts1.length q11,.slice p'11 us1.length q'11] 24)
  have hba:=hb.trans (ha.mono hb.size)
  have HBVX:Hid (BV v11.heap.size s1 false t1 ts1 us1 (.slice p11 ts1.length q11) (.slice p'11 us1.length q'11) (v11.alloc (.cells #[.int .i64 s1,.bool false,.string t1,.slice p11 ts1.length q11,.slice p'11 us1.length q'11] 24))):=Lib.hid ⟨heap_alloc_new v11 _,hvr.far ha⟩
  have HBC11:=Lib.hid (HBC.out.trans (hba.mono HBC.out.size))
  clear hvr hb ha hba x0 x1 x2 x3 x4
  go_upto_region 7 with fail
  generalize hX:v11.heap.size=X at *
  generalize hw:v11.alloc (.cells #[.int .i64 s1,.bool false,.string t1,.slice p11 ts1.length q11,.slice p'11 us1.length q'11] 24)=w11 at *
  clear hX hw
  obtain ⟨x0,x1,x2,x3,x4⟩:=(HBVv.out.far HBC11.out).cells
  go_wp2_with fail
  refine (HR1.out w11 HBC11.out).mono ?_
  rintro e v12 ⟨⟨k12,u12,rfl,hvr⟩,hb⟩
  obtain ⟨p12,q12,rfl⟩:=hvr.kr.len
  obtain ⟨p'12,q'12,rfl⟩:=hvr.ur.len
  unfold valV
  have ha:=alloc_far' v12 (.cells #[.int .i64 s1,.bool false,.string t1,.slice p12 ts1.length q12,.slice p'12 us1.length q'12] 24)
  have hba:=hb.trans (ha.mono hb.size)
  have HBVY:Hid (BV v12.heap.size s1 false t1 ts1 us1 (.slice p12 ts1.length q12) (.slice p'12 us1.length q'12) (v12.alloc (.cells #[.int .i64 s1,.bool false,.string t1,.slice p12 ts1.length q12,.slice p'12 us1.length q'12] 24))):=Lib.hid ⟨heap_alloc_new v12 _,hvr.far ha⟩
  have HBC12:=Lib.hid (HBC11.out.trans (hba.mono HBC11.out.size))
  replace HBVX:=Lib.hid (HBVX.out.far hba)
  clear hvr hb ha hba x0 x1 x2 x3 x4
  go_upto_region 8 with fail
  generalize hX:v12.heap.size=Y at *
  generalize hw:v12.alloc (.cells #[.int .i64 s1,.bool false,.string t1,.slice p12 ts1.length q12,.slice p'12 us1.length q'12] 24)=w12 at *
  clear hX hw
  obtain ⟨x0,x1,x2,x3,x4⟩:=(HBVa.out.far HBC12.out).cells
  go_wp2_with fail
  refine (HS2.out w12 HBC12.out).mono ?_
  rintro e v13 ⟨⟨k13,u13,rfl,hvr⟩,hb⟩
  obtain ⟨p13,q13,rfl⟩:=hvr.kr.len
  obtain ⟨p'13,q'13,rfl⟩:=hvr.ur.len
  unfold valV
  have ha:=alloc_far' v13 (.cells #[.int .i64 s2,.bool false,.string t2,.slice p13 ts2.length q13,.slice p'13 us2.length q'13] 24)
  have hba:=hb.trans (ha.mono hb.size)
  have HBVZ:Hid (BV v13.heap.size s2 false t2 ts2 us2 (.slice p13 ts2.length q13) (.slice p'13 us2.length q'13) (v13.alloc (.cells #[.int .i64 s2,.bool false,.string t2,.slice p13 ts2.length q13,.slice p'13 us2.length q'13] 24))):=Lib.hid ⟨heap_alloc_new v13 _,hvr.far ha⟩
  have HBC13:=Lib.hid (HBC12.out.trans (hba.mono HBC12.out.size))
  replace HBVX:=Lib.hid (HBVX.out.far hba)
  replace HBVY:=Lib.hid (HBVY.out.far hba)
  clear hvr hb ha hba x0 x1 x2 x3 x4
  go_upto_region 9 with fail
  generalize hX:v13.heap.size=Z at *
  generalize hw:v13.alloc (.cells #[.int .i64 s2,.bool false,.string t2,.slice p13 ts2.length q13,.slice p'13 us2.length q'13] 24)=w13 at *
  clear hX hw
  obtain ⟨x0,x1,x2,x3,x4⟩:=(HBVa.out.far HBC13.out).cells
  go_wp2_with fail
  refine (HR2.out w13 HBC13.out).mono ?_
  rintro e v14 ⟨⟨k14,u14,rfl,hvr⟩,hb⟩
  obtain ⟨p14,q14,rfl⟩:=hvr.kr.len
  obtain ⟨p'14,q'14,rfl⟩:=hvr.ur.len
  unfold valV
  have ha:=alloc_far' v14 (.cells #[.int .i64 s2,.bool false,.string t2,.slice p14 ts2.length q14,.slice p'14 us2.length q'14] 24)
  have hba:=hb.trans (ha.mono hb.size)
  have HBVH:Hid (BV v14.heap.size s2 false t2 ts2 us2 (.slice p14 ts2.length q14) (.slice p'14 us2.length q'14) (v14.alloc (.cells #[.int .i64 s2,.bool false,.string t2,.slice p14 ts2.length q14,.slice p'14 us2.length q'14] 24))):=Lib.hid ⟨heap_alloc_new v14 _,hvr.far ha⟩
  have HBC14:=Lib.hid (HBC13.out.trans (hba.mono HBC13.out.size))
  replace HBVX:=Lib.hid (HBVX.out.far hba)
  replace HBVY:=Lib.hid (HBVY.out.far hba)
  replace HBVZ:=Lib.hid (HBVZ.out.far hba)
  clear hvr hb ha hba x0 x1 x2 x3 x4
  go_upto_region 10 with fail
  generalize hX:v14.heap.size=H at *
  generalize hw:v14.alloc (.cells #[.int .i64 s2,.bool false,.string t2,.slice p14 ts2.length q14,.slice p'14 us2.length q'14] 24)=w14 at *
  clear hX hw
  have hqa:(ta.toList==ta.toList)=true:=beq_self_eq_true _
  have hqb:(tb.toList==tb.toList)=true:=beq_self_eq_true _
  have hqc:(tc.toList==tc.toList)=true:=beq_self_eq_true _
  have HQ1:=Lib.hid fun (W:World) (hW:Below w14.heap.size w14 W)=>refEqual_same (s:=s1) (b:=false) W (HBVX.out.far hW).vr (HBVY.out.far hW).vr
  have HQ2:=Lib.hid fun (W:World) (hW:Below w14.heap.size w14 W)=>refEqual_same (s:=s2) (b:=false) W (HBVZ.out.far hW).vr (HBVH.out.far hW).vr
  unfold valV at HQ1 HQ2
  have HZ:Hid (∀W,Below w14.heap.size w14 W→Below w10.heap.size w10 W):=Lib.hid fun W h=>HBC14.out.trans (h.mono HBC14.out.size)
  have HAW:=Lib.hid fun (W:World) (hW:Below w14.heap.size w14 W)=>awakeV W (HEW.out W (HZ.out W hW))
  clear HS1 HR1 HS2 HR2
  refine q_region (fun W=>Below w14.heap.size w14 W) (by kernel_rfl) (by kernel_rfl) (Below.refl _ _).drew ?_
  repeat (first
    | (refine q_skip ?_ ?_
       · (go_simp;done)
       simp only[Act.put,List.setIfInBounds_toArray,List.set_cons_zero,List.set_cons_succ])
    | (refine q_take (v:= ?_) ?_ ?_ ?_
       rotate_left
       · (go_simp;done)
       · intro W hW
         first
         | (go_simp;with_reducible rfl)
         | (obtain ⟨x0,x1,x2,x3,x4⟩:=(HBVX.out.far hW).cells;go_simp;with_reducible rfl)
         | (obtain ⟨x0,x1,x2,x3,x4⟩:=(HBVY.out.far hW).cells;go_simp;with_reducible rfl)
         | (obtain ⟨x0,x1,x2,x3,x4⟩:=(HBVZ.out.far hW).cells;go_simp;with_reducible rfl)
         | (obtain ⟨x0,x1,x2,x3,x4⟩:=(HBVH.out.far hW).cells;go_simp;with_reducible rfl)
         | (obtain ⟨x0,x1,x2,x3,x4⟩:=(HBVv.out.far (HZ.out W hW)).cells;go_simp;with_reducible rfl)
         | (obtain ⟨x0,x1,x2,x3,x4⟩:=(HBVa.out.far (HZ.out W hW)).cells;go_simp;with_reducible rfl)
         | (go_simp;go_at_call 11;(first | with_reducible refine (HQ1.out W hW).mono ?_ | with_reducible refine (HQ2.out W hW).mono ?_);rintro e u ⟨rfl,hb⟩;refine ⟨?_,hW.trans (hb.mono hW.size)⟩;with_reducible rfl)
         | (go_simp;go_at_call 20;(first | with_reducible refine (HTA.out.1 W (HZ.out W hW)).mono ?_ | with_reducible refine (HTB.out.1 W (HZ.out W hW)).mono ?_ | with_reducible refine (HTC.out.1 W (HZ.out W hW)).mono ?_);rintro e u ⟨rfl,hb⟩;refine ⟨?_,hW.trans (hb.mono hW.size)⟩;with_reducible rfl)
         | (go_simp;go_at_call 21;(first | with_reducible refine (HTA.out.2 W (HZ.out W hW)).mono ?_ | with_reducible refine (HTB.out.2 W (HZ.out W hW)).mono ?_ | with_reducible refine (HTC.out.2 W (HZ.out W hW)).mono ?_);rintro e u ⟨rfl,hb⟩;refine ⟨?_,hW.trans (hb.mono hW.size)⟩;with_reducible rfl)
         | (go_simp;go_at_call 13;with_reducible refine (HAW.out W hW).mono ?_;rintro e u ⟨rfl,hb⟩;refine ⟨?_,hW.trans (hb.mono hW.size)⟩;with_reducible rfl)
       simp only[Act.put,List.setIfInBounds_toArray,List.set_cons_zero,List.set_cons_succ]))
  refine q_nil ?_
  intro w15 hw15
  have HBF:Hid (Below V w w15):=Lib.hid (HBW.out.trans ((HZ.out _ hw15).mono HVZ.out))
  clear hw15
  go_wp2
  go_ret
  exact ⟨rfl,HBF.out⟩
end
end Go.Proofs.YtpkfnnkbfphfbaaGreatDoor.Se

/- The sanity check of layer 4. -/
import Derived.Test.YtpkfnnkbfphfbaaGreatDoorGET
import Derived.Test.YtpkfnnkbfphfbaaGreatDoorGEH
import Derived.Test.YtpkfnnkbfphfbaaGreatDoorGWH
set_option maxRecDepth 100000
set_option maxHeartbeats 40000000
namespace Go.Proofs.YtpkfnnkbfphfbaaGreatDoor.Se
open Go.RowKit Nmx

theorem ti0:TI 0=⟨#[48]⟩:=by kernel_rfl
theorem ti3:TI 3=⟨#[51]⟩:=by kernel_rfl
theorem ti7:TI 7=⟨#[55]⟩:=by kernel_rfl
theorem ti2:TI 2=⟨#[50]⟩:=by kernel_rfl
theorem ti1:TI 1=⟨#[49]⟩:=by kernel_rfl
theorem ti5:TI 5=⟨#[53]⟩:=by kernel_rfl
theorem tin7:TI (-7)=⟨#[45,55]⟩:=by kernel_rfl
theorem tin4:TI (-4)=⟨#[45,52]⟩:=by kernel_rfl
theorem tin2:TI (-2)=⟨#[45,50]⟩:=by kernel_rfl
theorem vd_S:vdF (naF (tsA 1 [(-2,5)])) (tsA 1 [(-2,5)])=true:=by kernel_rfl
theorem tx_S:(⟨(fAk 1 [(-2,5)] [((-2:Int),(5:Int))].length).toArray⟩:ByteArray)=⟨#[40,115,116,111,114,101,32,40,99,111,110,115,116,32,49,41,32,40,45,32,50,41,32,53,41]⟩:=by kernel_rfl
theorem av_nil (S:Nat) (w:World) {d:Int} (hd:Sm d):AV S w d [] noS noS:=
  ⟨World.ownsRow_nil _ _ _ _,World.ownsRow_nil _ _ _ _,trivial,hd,(fun p hp=>by cases hp),Nat.zero_le _⟩
theorem av_lit (w:World):AV w.heap.size ((w.alloc (.cells #[.string (TI (-2))] 9)).alloc (.cells #[.string (TI 5)] 9)) 1 [(-2,5)] (.slice (some ⟨w.heap.size,0,none⟩) 1 1) (.slice (some ⟨w.heap.size+1,0,none⟩) 1 1) where
  ks:=(World.ownsRow_lit w #[.string (TI (-2))] 1 (Nat.le_refl _) (by decide) rfl).alloc _
  us:=by
    have:=World.ownsRow_lit (base:=w.heap.size) (e:=9) (size:=1) (w.alloc (.cells #[.string (TI (-2))] 9)) #[.string (TI 5)] 1 (by simp) (by decide) rfl
    rw[show (w.alloc (.cells #[.string (TI (-2))] 9)).heap.size=w.heap.size+1 by simp] at this
    exact this
  vd:=show (5:Int)≠1 by decide
  sd:=by unfold Sm;decide
  sl:=fun p hp=>by obtain rfl:=List.mem_singleton.1 hp;unfold Sm;decide
  ln:=by decide
section
theorem awakeV (w:World) (hE:Env w):Calls Tryz.prog 13 #[] w fun e w'=>e=.returned (.bool true)∧Below w.heap.size w w':=by
  have HZ:=Lib.hid (zeroV 4 (by simp) w)
  rw[show zeroT 4=⟨#[48]⟩ from rfl] at HZ
  have HSA:=Lib.hid fun (W:World) (hW:Below w.heap.size w W)=>storeV (d:=0) (x:=3) (v:=7) W (hE.far hW) (av_nil 0 W (by unfold Sm;decide)).rd (by unfold Sm;decide) (by unfold Sm;decide) (by decide)
  have HSB:=Lib.hid fun (W:World) (hW:Below w.heap.size w W) (S:Nat) (k u:Value) (h:AV S W 0 [(3,7)] k u)=>storeV (d:=0) (x:=3) (v:=0) W (hE.far hW) h.rd (by unfold Sm;decide) (by unfold Sm;decide) (by decide)
  have HEQ:=Lib.hid fun (W:World) (S:Nat) (k u:Value) (h:AV S W 0 [] k u)=>equalV W h.rd (av_nil 0 W (d:=0) (by unfold Sm;decide)).rd
  have HEV:=Lib.hid fun (W:World) (hW:Below w.heap.size w W) (g c:Nat) (hN:NodesAt W g tsD) (hg:g<W.heap.size)=>eval_div g c W (hE.far hW) hN hg
  have HFO:=Lib.hid fun (W:World) (hW:Below w.heap.size w W)=>formatV _ (hE.far (hW.trans (((alloc_far' W (.cells #[.string (TI (-2))] 9)).trans ((alloc_far' (W.alloc (.cells #[.string (TI (-2))] 9)) (.cells #[.string (TI 5)] 9)).mono (by simp))).mono hW.size))) (av_lit W).rd vd_S
  rw[tx_S] at HFO
  simp only[show Arx.stA 0 [] 3 7=[(3,7)] from rfl] at HSA
  simp only[show Arx.stA 0 [(3,7)] 3 0=[] from rfl] at HSB
  rw[ti0,ti3,ti7] at HSA
  rw[ti0,ti3] at HSB
  rw[ti0] at HEQ
  rw[tin4] at HEV
  rw[ti1,ti5,tin2] at HFO
  simp only[and_self,decide_true] at HEQ
  simp only[valV,noS] at HZ HSA HSB HEQ HEV HFO
  clear hE
  go_enter Tryz.func13,Tryz.ntmps13
  go_wp2_with fail
  refine HZ.out.mono ?_
  rintro e w1 ⟨rfl,hb⟩
  have ha:=alloc_far' w1 (.cells #[.int .i64 4,.bool false,.string ⟨#[48]⟩,.slice none 0 0,.slice none 0 0] 24)
  have hx1:=heap_alloc_new w1 (.cells #[.int .i64 4,.bool false,.string ⟨#[48]⟩,.slice none 0 0,.slice none 0 0] 24)
  have HB1:=Lib.hid (hb.trans (ha.mono hb.size))
  have HX1:=Lib.hid hx1
  clear HZ hb ha hx1
  go_upto_region 2 with fail
  generalize hs1:w1.heap.size=s1 at *
  generalize hw2:w1.alloc _=w2 at *
  have x0:=heap_cell HX1.out 0
  have x1:=heap_cell HX1.out 1
  have x2:=heap_cell HX1.out 2
  have x3:=heap_cell HX1.out 3
  have x4:=heap_cell HX1.out 4
  clear hs1 hw2
  go_wp2_with fail
  refine (HSA.out _ HB1.out).mono ?_
  rintro e w3 ⟨ka,ua,rfl,hav,hb⟩
  obtain ⟨a1,c1,a2,c2,rfl,rfl⟩:=hav.form
  have ha:=alloc_far' w3 (.cells #[.int .i64 4,.bool false,.string ⟨#[48]⟩,.slice a1 1 c1,.slice a2 1 c2] 24)
  have hx2:=heap_alloc_new w3 (.cells #[.int .i64 4,.bool false,.string ⟨#[48]⟩,.slice a1 1 c1,.slice a2 1 c2] 24)
  have hba:=hb.trans (ha.mono hb.size)
  have HB2:=Lib.hid (HB1.out.trans (hba.mono HB1.out.size))
  have HX1b:=Lib.hid ((hba.block _ (lt_of_heap HX1.out)).trans HX1.out)
  have HX2:=Lib.hid hx2
  have HAV:=Lib.hid (hav.far ha)
  clear hb ha hx2 hba hav x0 x1 x2 x3 x4 HX1 HSA
  simp only[List.length_cons,List.length_nil,Nat.zero_add]
  go_upto_region 3 with fail
  generalize hs3:w3.heap.size=s3 at *
  generalize hw4:w3.alloc _=w4 at *
  have x0:=heap_cell HX2.out 0
  have x1:=heap_cell HX2.out 1
  have x2:=heap_cell HX2.out 2
  have x3:=heap_cell HX2.out 3
  have x4:=heap_cell HX2.out 4
  clear hs3 hw4 HB1
  have hsb:=HSB.out _ HB2.out _ _ _ HAV.out
  simp only[List.length_cons,List.length_nil,Nat.zero_add] at hsb
  clear HSB
  go_wp2_with fail
  refine hsb.mono ?_
  rintro e w5 ⟨kb,ub,rfl,hav,hb⟩
  obtain ⟨a3,c3,a4,c4,rfl,rfl⟩:=hav.form
  have ha:=alloc_far' w5 (.cells #[.int .i64 4,.bool false,.string ⟨#[48]⟩,.slice a3 0 c3,.slice a4 0 c4] 24)
  have hx3:=heap_alloc_new w5 (.cells #[.int .i64 4,.bool false,.string ⟨#[48]⟩,.slice a3 0 c3,.slice a4 0 c4] 24)
  have hba:=hb.trans (ha.mono hb.size)
  have HB3:=Lib.hid (HB2.out.trans (hba.mono HB2.out.size))
  have HX1c:=Lib.hid ((hba.block _ (lt_of_heap HX1b.out)).trans HX1b.out)
  have HX2b:=Lib.hid ((hba.block _ (lt_of_heap HX2.out)).trans HX2.out)
  have HAVa:=Lib.hid (HAV.out.far hba)
  have HX3:=Lib.hid hx3
  have HAVb:=Lib.hid (hav.far ha)
  clear hb ha hx3 hba hav x0 x1 x2 x3 x4 HX1b HX2 HAV hsb
  simp only[List.length_nil]
  go_upto_region 4 with fail
  generalize hs5:w5.heap.size=s5 at *
  generalize hw6:w5.alloc _=w6 at *
  clear hs5 hw6 HB2
  have HNM:=Lib.hid (num1_any 2 ⟨#[45,55]⟩ w6)
  go_wp2_with fail
  refine HNM.out.mono ?_
  rintro e w7 ⟨g,rfl,hN,hg,-,hb⟩
  have ha:=alloc_far' w7 (.cells #[.slice (some ⟨g,0,none⟩) 1 1] 45)
  have hk:=heap_alloc_new w7 (.cells #[.slice (some ⟨g,0,none⟩) 1 1] 45)
  have hba:=hb.trans (ha.mono hb.size)
  have HB4:=Lib.hid (HB3.out.trans (hba.mono HB3.out.size))
  have hkds:Kds (w7.alloc (.cells #[.slice (some ⟨g,0,none⟩) 1 1] 45)) (some ⟨w7.heap.size,0,none⟩) w7.heap.size [[⟨3,2,⟨#[]⟩,⟨#[45,55]⟩,0⟩]]:=by
    refine ⟨fun _=>rfl,lt_of_heap hk,fun j t ht=>?_⟩
    match j,ht with
    | 0,ht=>
      obtain rfl:_=t:=Option.some.inj ht
      exact ⟨g,1,heap_cell hk 0,hN.below ha hg,Nat.lt_of_lt_of_le hg ha.size⟩
  have hjn:=join_any ⟨16,0,⟨#[]⟩,⟨#[50]⟩,0⟩ (some ⟨w7.heap.size,0,none⟩) w7.heap.size 1 [[⟨3,2,⟨#[]⟩,⟨#[45,55]⟩,0⟩]] _ hkds (by decide) (by decide)
  have hjn':Calls Tryz.prog 36 #[.agg #[.int .i64 16,.int .i64 0,.string ⟨#[]⟩,.string ⟨#[50]⟩,.int .i64 0],.slice (some ⟨w7.heap.size,0,none⟩) 1 1] _ _:=hjn
  have HX1d:=Lib.hid ((hba.block _ (lt_of_heap HX1c.out)).trans HX1c.out)
  have HX2c:=Lib.hid ((hba.block _ (lt_of_heap HX2b.out)).trans HX2b.out)
  have HX3b:=Lib.hid ((hba.block _ (lt_of_heap HX3.out)).trans HX3.out)
  have HAVa2:=Lib.hid (HAVa.out.far hba)
  have HAVb2:=Lib.hid (HAVb.out.far hba)
  clear hb ha hk hba hkds hjn hN hg HX1c HX2b HX3 HAVa HAVb HB3 HNM
  go_wp2_with fail
  generalize hw8:w7.alloc _=w8 at *
  refine hjn'.mono ?_
  rintro e w9 ⟨g2,c9,rfl,hN,hg,-,hb⟩
  have HB5:=Lib.hid (HB4.out.trans (hb.mono HB4.out.size))
  have hev:=HEV.out w9 HB5.out g2 (2+c9) (by unfold tsD;rw[ti2,tin7];exact hN) hg
  have HX1e:=Lib.hid ((hb.block _ (lt_of_heap HX1d.out)).trans HX1d.out)
  have HX2d:=Lib.hid ((hb.block _ (lt_of_heap HX2c.out)).trans HX2c.out)
  have HX3c:=Lib.hid ((hb.block _ (lt_of_heap HX3b.out)).trans HX3b.out)
  have HAVa3:=Lib.hid (HAVa2.out.far hb)
  have HAVb3:=Lib.hid (HAVb2.out.far hb)
  clear hb hN hg hjn' hw8 HX1d HX2c HX3b HAVa2 HAVb2 HB4
  simp only[List.flatten_cons,List.flatten_nil,List.append_nil,List.length_cons,List.length_nil,Nat.zero_add,Nat.reduceAdd]
  go_wp2_with fail
  refine hev.mono ?_
  rintro e w10 ⟨rfl,hb⟩
  have ha:=alloc_far' w10 (.cells #[.int .i64 2,.bool false,.string ⟨#[45,52]⟩,.slice none 0 0,.slice none 0 0] 24)
  have hx4:=heap_alloc_new w10 (.cells #[.int .i64 2,.bool false,.string ⟨#[45,52]⟩,.slice none 0 0,.slice none 0 0] 24)
  have hba:=hb.trans (ha.mono hb.size)
  have HB6:=Lib.hid (HB5.out.trans (hba.mono HB5.out.size))
  have HX1f:=Lib.hid ((hba.block _ (lt_of_heap HX1e.out)).trans HX1e.out)
  have HX2e:=Lib.hid ((hba.block _ (lt_of_heap HX2d.out)).trans HX2d.out)
  have HX3d:=Lib.hid ((hba.block _ (lt_of_heap HX3c.out)).trans HX3c.out)
  have HX4:=Lib.hid hx4
  have HAVa4:=Lib.hid (HAVa3.out.far hba)
  have HAVb4:=Lib.hid (HAVb3.out.far hba)
  clear hb ha hx4 hba hev HX1e HX2d HX3c HAVa3 HAVb3 HB5
  go_upto_region 5 with fail
  generalize hs10:w10.heap.size=s10 at *
  generalize hw11:w10.alloc _=w11 at *
  clear hs10 hw11
  obtain ⟨ga,ca,gb,cb,ea,eb,-,hv7⟩:=HAVa4.out.cell (j:=0) (by decide)
  rw[show (TI ([((3:Int),(7:Int))][0]).2)=⟨#[55]⟩ from ti7] at hv7
  obtain ⟨rfl,-,rfl⟩:=Value.slice.inj ea
  obtain ⟨rfl,-,rfl⟩:=Value.slice.inj eb
  have x3:=heap_cell HX2e.out 3
  have x4:=heap_cell HX2e.out 4
  have y0:=heap_cell HX3d.out 0
  have y1:=heap_cell HX3d.out 1
  have y2:=heap_cell HX3d.out 2
  have y3:=heap_cell HX3d.out 3
  have y4:=heap_cell HX3d.out 4
  have z0:=heap_cell HX1f.out 0
  have z1:=heap_cell HX1f.out 1
  have z2:=heap_cell HX1f.out 2
  have z3:=heap_cell HX1f.out 3
  have z4:=heap_cell HX1f.out 4
  have heq:=HEQ.out w11 _ _ _ HAVb4.out
  simp only[List.length_nil] at heq
  clear ea eb
  go_wp2_with fail
  refine heq.mono ?_
  rintro e w12 ⟨rfl,hb⟩
  have HB7:=Lib.hid (HB6.out.trans (hb.mono HB6.out.size))
  have hx:=(hb.block _ (lt_of_heap HX4.out)).trans HX4.out
  have v2:=heap_cell hx 2
  have hfo:=HFO.out w12 HB7.out
  have ha1:=alloc_far' w12 (.cells #[.string ⟨#[45,50]⟩] 9)
  have ha2:=alloc_far' (w12.alloc (.cells #[.string ⟨#[45,50]⟩] 9)) (.cells #[.string ⟨#[53]⟩] 9)
  have hba:=ha1.trans (ha2.mono ha1.size)
  have HB8:=Lib.hid (HB7.out.trans (hba.mono HB7.out.size))
  clear hb hx heq x3 x4 y0 y1 y2 y3 y4 z0 z1 z2 z3 z4 hv7 ha1 ha2 hba
  go_wp2_with fail
  generalize hw13:World.alloc (World.alloc _ _) _=w13 at *
  refine hfo.mono ?_
  rintro e w14 ⟨rfl,hb⟩
  have HB9:=Lib.hid (HB8.out.trans (hb.mono HB8.out.size))
  clear hb hfo v2 hw13
  go_wp2
  go_ret
  exact ⟨rfl,HB9.out⟩
end
end Go.Proofs.YtpkfnnkbfphfbaaGreatDoor.Se

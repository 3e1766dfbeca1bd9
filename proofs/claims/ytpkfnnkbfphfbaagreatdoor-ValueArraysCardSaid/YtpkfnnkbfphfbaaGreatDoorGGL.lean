/- value.Store, value.At and the reference's at any value whose texts are short and few. -/
import Derived.Test.YtpkfnnkbfphfbaaGreatDoorGGI
import Derived.Test.YtpkfnnkbfphfbaaGreatDoorGFG
set_option maxRecDepth 100000
set_option maxHeartbeats 40000000
namespace Go.Proofs.YtpkfnnkbfphfbaaGreatDoor.Se
open Go.RowKit Nmx

theorem atA_drop {d x:Int} {l:Arx.L} {i:Nat} (h:i<l.length):Arx.atA d (l.drop i) x=if l[i].1=x then l[i].2 else Arx.atA d (l.drop (i+1)) x:=by
  rw[List.drop_eq_getElem_cons h]
  rfl
theorem cf5 {B:Nat} {ty:TypeId} {W:World} {a0 a1 a2 a3 a4:Value} (h:W.heap[B]? =some (.cells #[a0,a1,a2,a3,a4] ty (0,0))):
    W.cell? ⟨B,0,none⟩=some a0∧W.cell? ⟨B,1,none⟩=some a1∧W.cell? ⟨B,2,none⟩=some a2∧W.cell? ⟨B,3,none⟩=some a3∧W.cell? ⟨B,4,none⟩=some a4∧W.frozen? ⟨B,0,none⟩=false∧W.frozen? ⟨B,1,none⟩=false∧W.frozen? ⟨B,2,none⟩=false∧W.frozen? ⟨B,3,none⟩=false∧W.frozen? ⟨B,4,none⟩=false:=
  ⟨heap_cell h 0,heap_cell h 1,heap_cell h 2,heap_cell h 3,heap_cell h 4,heap_fz h 0,heap_fz h 1,heap_fz h 2,heap_fz h 3,heap_fz h 4⟩
section
theorem at_no {s:Int} {b q r:Bool} {num i:ByteArray} {ks us:List ByteArray} {k u:Value} (w:World) (hk:RRow w k ks) (hu:RRow w u us)
    (HV:s=4→∀W,Below w.heap.size w W→Calls Tryz.prog 12 #[valV s b num k u] W fun e w'=>e=.returned (.bool q)∧Below W.heap.size W w')
    (HI:s=4→∀W,Below w.heap.size w W→Calls Tryz.prog 32 #[.string i] W fun e w'=>e=.returned (.bool r)∧Below W.heap.size W w')
    (hc:¬s=4∨(s=4∧q=false)∨(s=4∧q=true∧r=false)):
    Calls Tryz.prog 20 #[valV s b num k u,.string i] w fun e w'=>e=.returned (.string ⟨#[]⟩)∧Below w.heap.size w w':=by
  obtain ⟨a,c,rfl⟩:=hk.len
  obtain ⟨a',c',rfl⟩:=hu.len
  unfold valV at HV ⊢
  have HX:=Lib.hid (heap_alloc_new w (.cells #[.int .i64 s,.bool b,.string num,.slice a ks.length c,.slice a' us.length c'] 24))
  have HB:=Lib.hid (alloc_far' w (.cells #[.int .i64 s,.bool b,.string num,.slice a ks.length c,.slice a' us.length c'] 24))
  generalize ks.length=n at *
  generalize us.length=n' at *
  have HVV:=Lib.hid HV
  have HII:=Lib.hid HI
  clear hk hu HV HI
  rcases hc with h4 | ⟨rfl,rfl⟩ | ⟨rfl,rfl,rfl⟩
  · go_enter Tryz.func20,Tryz.ntmps20
    go_wp2
    go_ret
    exact ⟨rfl,HB.out⟩
  · go_enter Tryz.func20,Tryz.ntmps20
    go_wp2_with fail
    refine (HVV.out (by first | rfl | trivial) _ HB.out).mono ?_
    rintro e w1 ⟨rfl,hb⟩
    have HB1:=Lib.hid (HB.out.trans (hb.mono HB.out.size))
    clear hb HX HB
    go_wp2
    go_ret
    exact ⟨rfl,HB1.out⟩
  · go_enter Tryz.func20,Tryz.ntmps20
    go_wp2_with fail
    refine (HVV.out (by first | rfl | trivial) _ HB.out).mono ?_
    rintro e w1 ⟨rfl,hb⟩
    have HB1:=Lib.hid (HB.out.trans (hb.mono HB.out.size))
    clear hb HX HB
    go_wp2_with fail
    refine (HII.out (by first | rfl | trivial) _ HB1.out).mono ?_
    rintro e w2 ⟨rfl,hb⟩
    have HB2:=Lib.hid (HB1.out.trans (hb.mono HB1.out.size))
    clear hb HB1
    go_wp2
    go_ret
    exact ⟨rfl,HB2.out⟩
theorem refAt_no {s:Int} {b q r:Bool} {num i:ByteArray} {ks us:List ByteArray} {k u:Value} (w:World) (hk:RRow w k ks) (hu:RRow w u us)
    (HV:s=4→∀W,Below w.heap.size w W→Calls Tryz.prog 26 #[valV s b num k u] W fun e w'=>e=.returned (.bool q)∧Below W.heap.size W w')
    (HI:s=4→∀W,Below w.heap.size w W→Calls Tryz.prog 43 #[.string i] W fun e w'=>e=.returned (.bool r)∧Below W.heap.size W w')
    (hc:¬s=4∨(s=4∧q=false)∨(s=4∧q=true∧r=false)):
    Calls Tryz.prog 21 #[valV s b num k u,.string i] w fun e w'=>e=.returned (.string ⟨#[]⟩)∧Below w.heap.size w w':=by
  obtain ⟨a,c,rfl⟩:=hk.len
  obtain ⟨a',c',rfl⟩:=hu.len
  unfold valV at HV ⊢
  have HX:=Lib.hid (heap_alloc_new w (.cells #[.int .i64 s,.bool b,.string num,.slice a ks.length c,.slice a' us.length c'] 24))
  have HB:=Lib.hid (alloc_far' w (.cells #[.int .i64 s,.bool b,.string num,.slice a ks.length c,.slice a' us.length c'] 24))
  generalize ks.length=n at *
  generalize us.length=n' at *
  have HVV:=Lib.hid HV
  have HII:=Lib.hid HI
  clear hk hu HV HI
  rcases hc with h4 | ⟨rfl,rfl⟩ | ⟨rfl,rfl,rfl⟩
  · go_enter Tryz.func21,Tryz.ntmps21
    go_wp2
    go_ret
    exact ⟨rfl,HB.out⟩
  · go_enter Tryz.func21,Tryz.ntmps21
    go_wp2_with fail
    refine (HVV.out (by first | rfl | trivial) _ HB.out).mono ?_
    rintro e w1 ⟨rfl,hb⟩
    have HB1:=Lib.hid (HB.out.trans (hb.mono HB.out.size))
    clear hb HX HB
    go_wp2
    go_ret
    exact ⟨rfl,HB1.out⟩
  · go_enter Tryz.func21,Tryz.ntmps21
    go_wp2_with fail
    refine (HVV.out (by first | rfl | trivial) _ HB.out).mono ?_
    rintro e w1 ⟨rfl,hb⟩
    have HB1:=Lib.hid (HB.out.trans (hb.mono HB.out.size))
    clear hb HX HB
    go_wp2_with fail
    refine (HII.out (by first | rfl | trivial) _ HB1.out).mono ?_
    rintro e w2 ⟨rfl,hb⟩
    have HB2:=Lib.hid (HB1.out.trans (hb.mono HB1.out.size))
    clear hb HB1
    go_wp2
    go_ret
    exact ⟨rfl,HB2.out⟩
theorem store_no {s:Int} {b q r r2:Bool} {num i v:ByteArray} {ks us:List ByteArray} {k u:Value} (w:World) (hk:RRow w k ks) (hu:RRow w u us)
    (HV:s=4→∀W,Below w.heap.size w W→Calls Tryz.prog 12 #[valV s b num k u] W fun e w'=>e=.returned (.bool q)∧Below W.heap.size W w')
    (HI:s=4→∀W,Below w.heap.size w W→Calls Tryz.prog 32 #[.string i] W fun e w'=>e=.returned (.bool r)∧Below W.heap.size W w')
    (HN:s=4→∀W,Below w.heap.size w W→Calls Tryz.prog 32 #[.string v] W fun e w'=>e=.returned (.bool r2)∧Below W.heap.size W w')
    (hc:¬s=4∨(s=4∧q=false)∨(s=4∧q=true∧r=false)∨(s=4∧q=true∧r=true∧r2=false)):
    Calls Tryz.prog 18 #[valV s b num k u,.string i,.string v] w fun e w'=>e=.returned (.tuple #[valV 0 false ⟨#[]⟩ (.slice none 0 0) (.slice none 0 0),.int .i64 1])∧Below w.heap.size w w':=by
  obtain ⟨a,c,rfl⟩:=hk.len
  obtain ⟨a',c',rfl⟩:=hu.len
  unfold valV at HV ⊢
  have hA:=alloc_far' w (.cells #[.int .i64 s,.bool b,.string num,.slice a ks.length c,.slice a' us.length c'] 24)
  have hA2:=alloc_far' (w.alloc (.cells #[.int .i64 s,.bool b,.string num,.slice a ks.length c,.slice a' us.length c'] 24)) (.cells #[.int .i64 0,.bool false,.string ⟨#[]⟩,.slice none 0 0,.slice none 0 0] 24)
  have b1:=(hA2.block _ (lt_of_heap (heap_alloc_new w (.cells #[.int .i64 s,.bool b,.string num,.slice a ks.length c,.slice a' us.length c'] 24)))).trans (heap_alloc_new w (.cells #[.int .i64 s,.bool b,.string num,.slice a ks.length c,.slice a' us.length c'] 24))
  have b2:=heap_alloc_new (w.alloc (.cells #[.int .i64 s,.bool b,.string num,.slice a ks.length c,.slice a' us.length c'] 24)) (.cells #[.int .i64 0,.bool false,.string ⟨#[]⟩,.slice none 0 0,.slice none 0 0] 24)
  rw[show (w.alloc (.cells #[.int .i64 s,.bool b,.string num,.slice a ks.length c,.slice a' us.length c'] 24)).heap.size=w.heap.size+1 by simp] at b2
  have HB:=Lib.hid (hA.trans (hA2.mono hA.size))
  have HX:=Lib.hid b1
  have HRX:=Lib.hid b2
  generalize ks.length=n at *
  generalize us.length=n' at *
  have HVV:=Lib.hid HV
  have HII:=Lib.hid HI
  have HNN:=Lib.hid HN
  clear hk hu HV HI HN hA hA2 b1 b2
  rcases hc with h4 | ⟨rfl,rfl⟩ | ⟨rfl,rfl,rfl⟩ | ⟨rfl,rfl,rfl,rfl⟩
  · have x0:=heap_cell HX.out 0
    go_enter Tryz.func18,Tryz.ntmps18
    go_upto_region 1 with fail
    generalize hw1:World.alloc _ _=w1 at *
    clear hw1
    obtain ⟨f0,f1,f2,f3,f4,g0,g1,g2,g3,g4⟩:=cf5 HRX.out
    go_wp2
    obtain ⟨s1,s2,s3⟩:=set5 HRX.out (.int .i64 0) (.bool false) (.string ⟨#[]⟩) (.slice none 0 0) (.slice none 0 0)
    refine end_val2 (E:=1) rfl rfl rfl rfl ⟨_,_,_,rfl⟩ ⟨_,_,_,rfl⟩ s1 ⟨rfl,s3 HB.out (by omega)⟩
  · go_enter Tryz.func18,Tryz.ntmps18
    go_wp2_with fail
    generalize hw1:World.alloc _ _=w1 at *
    clear hw1
    refine (HVV.out (by first | rfl | trivial) _ HB.out).mono ?_
    rintro e w2 ⟨rfl,hb⟩
    replace HX:=Lib.hid ((hb.block _ (lt_of_heap HX.out)).trans HX.out)
    replace HRX:=Lib.hid ((hb.block _ (lt_of_heap HRX.out)).trans HRX.out)
    replace HB:=Lib.hid (HB.out.trans (hb.mono HB.out.size))
    clear hb
    obtain ⟨f0,f1,f2,f3,f4,g0,g1,g2,g3,g4⟩:=cf5 HRX.out
    go_wp2
    obtain ⟨s1,s2,s3⟩:=set5 HRX.out (.int .i64 0) (.bool false) (.string ⟨#[]⟩) (.slice none 0 0) (.slice none 0 0)
    refine end_val2 (E:=1) rfl rfl rfl rfl ⟨_,_,_,rfl⟩ ⟨_,_,_,rfl⟩ s1 ⟨rfl,s3 HB.out (by omega)⟩
  · go_enter Tryz.func18,Tryz.ntmps18
    go_wp2_with fail
    generalize hw1:World.alloc _ _=w1 at *
    clear hw1
    refine (HVV.out (by first | rfl | trivial) _ HB.out).mono ?_
    rintro e w2 ⟨rfl,hb⟩
    replace HX:=Lib.hid ((hb.block _ (lt_of_heap HX.out)).trans HX.out)
    replace HRX:=Lib.hid ((hb.block _ (lt_of_heap HRX.out)).trans HRX.out)
    replace HB:=Lib.hid (HB.out.trans (hb.mono HB.out.size))
    clear hb
    go_wp2_with fail
    refine (HII.out (by first | rfl | trivial) _ HB.out).mono ?_
    rintro e w3 ⟨rfl,hb⟩
    replace HX:=Lib.hid ((hb.block _ (lt_of_heap HX.out)).trans HX.out)
    replace HRX:=Lib.hid ((hb.block _ (lt_of_heap HRX.out)).trans HRX.out)
    replace HB:=Lib.hid (HB.out.trans (hb.mono HB.out.size))
    clear hb
    obtain ⟨f0,f1,f2,f3,f4,g0,g1,g2,g3,g4⟩:=cf5 HRX.out
    go_wp2
    obtain ⟨s1,s2,s3⟩:=set5 HRX.out (.int .i64 0) (.bool false) (.string ⟨#[]⟩) (.slice none 0 0) (.slice none 0 0)
    refine end_val2 (E:=1) rfl rfl rfl rfl ⟨_,_,_,rfl⟩ ⟨_,_,_,rfl⟩ s1 ⟨rfl,s3 HB.out (by omega)⟩
  · go_enter Tryz.func18,Tryz.ntmps18
    go_wp2_with fail
    generalize hw1:World.alloc _ _=w1 at *
    clear hw1
    refine (HVV.out (by first | rfl | trivial) _ HB.out).mono ?_
    rintro e w2 ⟨rfl,hb⟩
    replace HX:=Lib.hid ((hb.block _ (lt_of_heap HX.out)).trans HX.out)
    replace HRX:=Lib.hid ((hb.block _ (lt_of_heap HRX.out)).trans HRX.out)
    replace HB:=Lib.hid (HB.out.trans (hb.mono HB.out.size))
    clear hb
    go_wp2_with fail
    refine (HII.out (by first | rfl | trivial) _ HB.out).mono ?_
    rintro e w3 ⟨rfl,hb⟩
    replace HX:=Lib.hid ((hb.block _ (lt_of_heap HX.out)).trans HX.out)
    replace HRX:=Lib.hid ((hb.block _ (lt_of_heap HRX.out)).trans HRX.out)
    replace HB:=Lib.hid (HB.out.trans (hb.mono HB.out.size))
    clear hb
    go_wp2_with fail
    refine (HNN.out (by first | rfl | trivial) _ HB.out).mono ?_
    rintro e w4 ⟨rfl,hb⟩
    replace HX:=Lib.hid ((hb.block _ (lt_of_heap HX.out)).trans HX.out)
    replace HRX:=Lib.hid ((hb.block _ (lt_of_heap HRX.out)).trans HRX.out)
    replace HB:=Lib.hid (HB.out.trans (hb.mono HB.out.size))
    clear hb
    obtain ⟨f0,f1,f2,f3,f4,g0,g1,g2,g3,g4⟩:=cf5 HRX.out
    go_wp2
    obtain ⟨s1,s2,s3⟩:=set5 HRX.out (.int .i64 0) (.bool false) (.string ⟨#[]⟩) (.slice none 0 0) (.slice none 0 0)
    refine end_val2 (E:=1) rfl rfl rfl rfl ⟨_,_,_,rfl⟩ ⟨_,_,_,rfl⟩ s1 ⟨rfl,s3 HB.out (by omega)⟩
theorem refStore_no {s:Int} {b q r r2:Bool} {num i v:ByteArray} {ks us:List ByteArray} {k u:Value} (w:World) (hk:RRow w k ks) (hu:RRow w u us)
    (HV:s=4→∀W,Below w.heap.size w W→Calls Tryz.prog 26 #[valV s b num k u] W fun e w'=>e=.returned (.bool q)∧Below W.heap.size W w')
    (HI:s=4→∀W,Below w.heap.size w W→Calls Tryz.prog 43 #[.string i] W fun e w'=>e=.returned (.bool r)∧Below W.heap.size W w')
    (HN:s=4→∀W,Below w.heap.size w W→Calls Tryz.prog 43 #[.string v] W fun e w'=>e=.returned (.bool r2)∧Below W.heap.size W w')
    (hc:¬s=4∨(s=4∧q=false)∨(s=4∧q=true∧r=false)∨(s=4∧q=true∧r=true∧r2=false)):
    Calls Tryz.prog 19 #[valV s b num k u,.string i,.string v] w fun e w'=>e=.returned (.tuple #[valV 0 false ⟨#[]⟩ (.slice none 0 0) (.slice none 0 0),.int .i64 1])∧Below w.heap.size w w':=by
  obtain ⟨a,c,rfl⟩:=hk.len
  obtain ⟨a',c',rfl⟩:=hu.len
  unfold valV at HV ⊢
  have hA:=alloc_far' w (.cells #[.int .i64 s,.bool b,.string num,.slice a ks.length c,.slice a' us.length c'] 24)
  have hA2:=alloc_far' (w.alloc (.cells #[.int .i64 s,.bool b,.string num,.slice a ks.length c,.slice a' us.length c'] 24)) (.cells #[.int .i64 0,.bool false,.string ⟨#[]⟩,.slice none 0 0,.slice none 0 0] 24)
  have b1:=(hA2.block _ (lt_of_heap (heap_alloc_new w (.cells #[.int .i64 s,.bool b,.string num,.slice a ks.length c,.slice a' us.length c'] 24)))).trans (heap_alloc_new w (.cells #[.int .i64 s,.bool b,.string num,.slice a ks.length c,.slice a' us.length c'] 24))
  have b2:=heap_alloc_new (w.alloc (.cells #[.int .i64 s,.bool b,.string num,.slice a ks.length c,.slice a' us.length c'] 24)) (.cells #[.int .i64 0,.bool false,.string ⟨#[]⟩,.slice none 0 0,.slice none 0 0] 24)
  rw[show (w.alloc (.cells #[.int .i64 s,.bool b,.string num,.slice a ks.length c,.slice a' us.length c'] 24)).heap.size=w.heap.size+1 by simp] at b2
  have HB:=Lib.hid (hA.trans (hA2.mono hA.size))
  have HX:=Lib.hid b1
  have HRX:=Lib.hid b2
  generalize ks.length=n at *
  generalize us.length=n' at *
  have HVV:=Lib.hid HV
  have HII:=Lib.hid HI
  have HNN:=Lib.hid HN
  clear hk hu HV HI HN hA hA2 b1 b2
  rcases hc with h4 | ⟨rfl,rfl⟩ | ⟨rfl,rfl,rfl⟩ | ⟨rfl,rfl,rfl,rfl⟩
  · have x0:=heap_cell HX.out 0
    go_enter Tryz.func19,Tryz.ntmps19
    go_upto_region 1 with fail
    generalize hw1:World.alloc _ _=w1 at *
    clear hw1
    obtain ⟨f0,f1,f2,f3,f4,g0,g1,g2,g3,g4⟩:=cf5 HRX.out
    go_wp2
    obtain ⟨s1,s2,s3⟩:=set5 HRX.out (.int .i64 0) (.bool false) (.string ⟨#[]⟩) (.slice none 0 0) (.slice none 0 0)
    refine end_val2 (E:=1) rfl rfl rfl rfl ⟨_,_,_,rfl⟩ ⟨_,_,_,rfl⟩ s1 ⟨rfl,s3 HB.out (by omega)⟩
  · go_enter Tryz.func19,Tryz.ntmps19
    go_wp2_with fail
    generalize hw1:World.alloc _ _=w1 at *
    clear hw1
    refine (HVV.out (by first | rfl | trivial) _ HB.out).mono ?_
    rintro e w2 ⟨rfl,hb⟩
    replace HX:=Lib.hid ((hb.block _ (lt_of_heap HX.out)).trans HX.out)
    replace HRX:=Lib.hid ((hb.block _ (lt_of_heap HRX.out)).trans HRX.out)
    replace HB:=Lib.hid (HB.out.trans (hb.mono HB.out.size))
    clear hb
    obtain ⟨f0,f1,f2,f3,f4,g0,g1,g2,g3,g4⟩:=cf5 HRX.out
    go_wp2
    obtain ⟨s1,s2,s3⟩:=set5 HRX.out (.int .i64 0) (.bool false) (.string ⟨#[]⟩) (.slice none 0 0) (.slice none 0 0)
    refine end_val2 (E:=1) rfl rfl rfl rfl ⟨_,_,_,rfl⟩ ⟨_,_,_,rfl⟩ s1 ⟨rfl,s3 HB.out (by omega)⟩
  · go_enter Tryz.func19,Tryz.ntmps19
    go_wp2_with fail
    generalize hw1:World.alloc _ _=w1 at *
    clear hw1
    refine (HVV.out (by first | rfl | trivial) _ HB.out).mono ?_
    rintro e w2 ⟨rfl,hb⟩
    replace HX:=Lib.hid ((hb.block _ (lt_of_heap HX.out)).trans HX.out)
    replace HRX:=Lib.hid ((hb.block _ (lt_of_heap HRX.out)).trans HRX.out)
    replace HB:=Lib.hid (HB.out.trans (hb.mono HB.out.size))
    clear hb
    go_wp2_with fail
    refine (HII.out (by first | rfl | trivial) _ HB.out).mono ?_
    rintro e w3 ⟨rfl,hb⟩
    replace HX:=Lib.hid ((hb.block _ (lt_of_heap HX.out)).trans HX.out)
    replace HRX:=Lib.hid ((hb.block _ (lt_of_heap HRX.out)).trans HRX.out)
    replace HB:=Lib.hid (HB.out.trans (hb.mono HB.out.size))
    clear hb
    obtain ⟨f0,f1,f2,f3,f4,g0,g1,g2,g3,g4⟩:=cf5 HRX.out
    go_wp2
    obtain ⟨s1,s2,s3⟩:=set5 HRX.out (.int .i64 0) (.bool false) (.string ⟨#[]⟩) (.slice none 0 0) (.slice none 0 0)
    refine end_val2 (E:=1) rfl rfl rfl rfl ⟨_,_,_,rfl⟩ ⟨_,_,_,rfl⟩ s1 ⟨rfl,s3 HB.out (by omega)⟩
  · go_enter Tryz.func19,Tryz.ntmps19
    go_wp2_with fail
    generalize hw1:World.alloc _ _=w1 at *
    clear hw1
    refine (HVV.out (by first | rfl | trivial) _ HB.out).mono ?_
    rintro e w2 ⟨rfl,hb⟩
    replace HX:=Lib.hid ((hb.block _ (lt_of_heap HX.out)).trans HX.out)
    replace HRX:=Lib.hid ((hb.block _ (lt_of_heap HRX.out)).trans HRX.out)
    replace HB:=Lib.hid (HB.out.trans (hb.mono HB.out.size))
    clear hb
    go_wp2_with fail
    refine (HII.out (by first | rfl | trivial) _ HB.out).mono ?_
    rintro e w3 ⟨rfl,hb⟩
    replace HX:=Lib.hid ((hb.block _ (lt_of_heap HX.out)).trans HX.out)
    replace HRX:=Lib.hid ((hb.block _ (lt_of_heap HRX.out)).trans HRX.out)
    replace HB:=Lib.hid (HB.out.trans (hb.mono HB.out.size))
    clear hb
    go_wp2_with fail
    refine (HNN.out (by first | rfl | trivial) _ HB.out).mono ?_
    rintro e w4 ⟨rfl,hb⟩
    replace HX:=Lib.hid ((hb.block _ (lt_of_heap HX.out)).trans HX.out)
    replace HRX:=Lib.hid ((hb.block _ (lt_of_heap HRX.out)).trans HRX.out)
    replace HB:=Lib.hid (HB.out.trans (hb.mono HB.out.size))
    clear hb
    obtain ⟨f0,f1,f2,f3,f4,g0,g1,g2,g3,g4⟩:=cf5 HRX.out
    go_wp2
    obtain ⟨s1,s2,s3⟩:=set5 HRX.out (.int .i64 0) (.bool false) (.string ⟨#[]⟩) (.slice none 0 0) (.slice none 0 0)
    refine end_val2 (E:=1) rfl rfl rfl rfl ⟨_,_,_,rfl⟩ ⟨_,_,_,rfl⟩ s1 ⟨rfl,s3 HB.out (by omega)⟩
theorem refAtR {d x:Int} {l:Arx.L} {k u:Value} (w:World) (h:AR w d l k u) (hx:Sm x):
    Calls Tryz.prog 21 #[valV 4 false (TI d) k u,.string (TI x)] w fun e w'=>e=.returned (.string (TI (Arx.atA d l x)))∧Below w.heap.size w w':=by
  have hA:=alloc_far' w (.cells #[.int .i64 4,.bool false,.string (TI d),k,u] 24)
  have b1:=heap_alloc_new w (.cells #[.int .i64 4,.bool false,.string (TI d),k,u] 24)
  have HVA:=Lib.hid fun (W:World) (hW:Below w.heap.size w W)=>refValid_av W (h.far hW)
  have HIX:=Lib.hid fun (W:World)=>refIsIntI hx W
  have HNK:=Lib.hid (fun (i:Nat) (hi:i<l.length)=>ti_eq l[i].1 x)
  have HAR:=Lib.hid h
  have HB:=Lib.hid hA
  have HX:=Lib.hid b1
  obtain ⟨a,c,a',c',rfl,rfl⟩:=h.form
  unfold valV at HVA ⊢
  obtain ⟨n,hn⟩:∃n,l.length=n:=⟨_,rfl⟩
  have HN:=Lib.hid hn
  have hln:n≤1000:=by have:=h.ln;omega
  rw[hn] at HB HX HVA ⊢
  clear hA b1 h hn
  obtain ⟨tx,htx⟩:∃t,TI x=t:=⟨_,rfl⟩
  rw[htx] at HIX HNK ⊢
  obtain ⟨td,htd⟩:∃t,TI d=t:=⟨_,rfl⟩
  have HTD:=Lib.hid htd
  rw[htd] at HVA HB HX ⊢
  clear htx htd
  go_enter Tryz.func21,Tryz.ntmps21
  go_wp2_with fail
  refine (HVA.out _ HB.out).mono ?_
  rintro e w1 ⟨rfl,hb⟩
  have HX1:=Lib.hid ((hb.block _ (lt_of_heap HX.out)).trans HX.out)
  have HB1:=Lib.hid (HB.out.trans (hb.mono HB.out.size))
  clear hb HX HB
  go_wp2_with fail
  refine (HIX.out _).mono ?_
  rintro e w2 ⟨rfl,hb⟩
  have HX2:=Lib.hid ((hb.block _ (lt_of_heap HX1.out)).trans HX1.out)
  have HB2:=Lib.hid (HB1.out.trans (hb.mono HB1.out.size))
  clear hb HX1 HB1
  go_wp2_with fail
  go_loopg [5] n (fun gh v wr=>∃(i:Nat),gh=n-i∧i≤n∧v=.int .i64 i∧Arx.atA d l x=Arx.atA d (l.drop i) x∧ABox w.heap.size td (.slice a n c) (.slice a' n c') wr∧Below w.heap.size w wr)
  case atStart=>exact ⟨0,rfl,Nat.zero_le _,rfl,rfl,HX2.out,HB2.out⟩
  case round=>
    obtain ⟨i,rfl,hi,rfl,hat,hX,hb⟩:=hrel
    clear HX2 HB2
    have HB:=Lib.hid hb
    have HX:=Lib.hid hX
    have x2:=heap_cell hX 2
    have x3:=heap_cell hX 3
    have x4:=heap_cell hX 4
    clear hX hb
    have hi0:(0:Int)≤(i:Int):=by omega
    by_cases hlt:i<n
    · have hlt':(i:Int)<(n:Int):=by omega
      have hl:i<l.length:=by rw[HN.out];exact hlt
      obtain ⟨g,o,cc,g',o',cc',e1,e2,hk,hu⟩:=(HAR.out.far HB.out).cell hl
      rw[HN.out] at e1 e2
      injection e1 with e1 _ e1c
      injection e2 with e2 _ e2c
      subst e1 e2 e1c e2c
      have hq:=HNK.out i hl
      rw[atA_drop hl] at hat
      obtain ⟨tv,htv⟩:∃t,TI l[i].2=t:=⟨_,rfl⟩
      rw[htv] at hu
      obtain ⟨tk,htk⟩:∃t,TI l[i].1=t:=⟨_,rfl⟩
      rw[htk] at hk hq
      by_cases he:l[i].1=x
      · rw[decide_eq_true he] at hq
        rw[if_pos he] at hat
        have HAT:Hid (TI (Arx.atA d l x)=tv):=Lib.hid (by rw[hat];exact htv)
        clear he hat htv htk hl
        go_wp2
        go_ret
        exact ⟨by rw[HAT.out];rfl,HB.out⟩
      · rw[decide_eq_false he] at hq
        rw[if_neg he] at hat
        have HAT:=Lib.hid hat
        clear he hat htv htk hl
        go_wp2_with fail
        go_roundg (n-(i+1))
        case rel=>exact ⟨i+1,rfl,by omega,by go_num,HAT.out,HX.out,HB.out⟩
        case measure=>omega
    · have hlt':¬((i:Int)<(n:Int)):=by omega
      have HAT:Hid (TI (Arx.atA d l x)=td):=Lib.hid (by
        rw[hat,List.drop_of_length_le (by rw[HN.out];omega),←HTD.out]
        rfl)
      clear hat
      go_wp2
      go_ret
      exact ⟨by rw[HAT.out];rfl,HB.out⟩
end
end Go.Proofs.YtpkfnnkbfphfbaaGreatDoor.Se
/- What the law's small says: the texts of a value are short and few. -/
namespace Go.Proofs.YtpkfnnkbfphfbaaGreatDoor.Se
open Go.RowKit Nmx

structure SmPost (w:World) (num:ByteArray) (ks us:List ByteArray) (k u:Value) (e:Ending) (w':World):Prop where
  ex:∃r,e=.returned (.bool r)∧(r=true→VS w num ks us k u)
  bel:Below w.heap.size w w'
section
theorem small_any {s:Int} {b:Bool} {num:ByteArray} {ks us:List ByteArray} {k u:Value} (w:World) (hk:RRow w k ks) (hu:RRow w u us):
    Calls Tryz.prog 14 #[valV s b num k u] w (SmPost w num ks us k u):=by
  obtain ⟨a,c,rfl⟩:=hk.len
  obtain ⟨a',c',rfl⟩:=hu.len
  unfold valV
  have HX:=Lib.hid (heap_alloc_new w (.cells #[.int .i64 s,.bool b,.string num,.slice a ks.length c,.slice a' us.length c'] 24))
  have HB:=Lib.hid (alloc_far' w (.cells #[.int .i64 s,.bool b,.string num,.slice a ks.length c,.slice a' us.length c'] 24))
  obtain ⟨n,hn⟩:∃n,ks.length=n:=⟨_,rfl⟩
  obtain ⟨n',hn'⟩:∃n,us.length=n:=⟨_,rfl⟩
  have HN:=Lib.hid hn
  have HN':=Lib.hid hn'
  rw[hn] at hk
  rw[hn'] at hu
  have HK:=Lib.hid hk
  have HU:=Lib.hid hu
  rw[hn,hn'] at HX HB
  rw[hn,hn']
  clear hk hu hn hn'
  by_cases h1:(50:Int)<(num.size:Int)
  · go_enter Tryz.func14,Tryz.ntmps14
    go_wp2
    go_ret
    exact ⟨⟨false,rfl,fun e=>by cases e⟩,HB.out⟩
  · by_cases h2:(12:Int)<(n:Int)
    · go_enter Tryz.func14,Tryz.ntmps14
      go_wp2
      go_ret
      exact ⟨⟨false,rfl,fun e=>by cases e⟩,HB.out⟩
    · by_cases h3:(12:Int)<(n':Int)
      · go_enter Tryz.func14,Tryz.ntmps14
        go_wp2
        go_ret
        exact ⟨⟨false,rfl,fun e=>by cases e⟩,HB.out⟩
      · have HL:Hid (num.size≤50∧n≤12∧n'≤12):=Lib.hid (by omega)
        go_enter Tryz.func14,Tryz.ntmps14
        go_wp2_with fail
        clear h1 h2 h3
        have hn12:n≤12:=HL.out.2.1
        have hn12':n'≤12:=HL.out.2.2
        go_loopg [3] n (fun gh v wr=>∃(i:Nat),gh=n-i∧i≤n∧v=.int .i64 i∧(∀t∈ks.take i,t.size≤50)∧wr.heap[w.heap.size]? =some (.cells #[.int .i64 s,.bool b,.string num,.slice a n c,.slice a' n' c'] 24 (0,0))∧Below w.heap.size w wr)
        case atStart=>exact ⟨0,rfl,Nat.zero_le _,rfl,(fun t ht=>by simp at ht),HX.out,HB.out⟩
        case round=>
          obtain ⟨i,rfl,hi,rfl,hall,hX,hb⟩:=hrel
          clear HX HB
          have HB:=Lib.hid hb
          have HX:=Lib.hid hX
          have HA:=Lib.hid hall
          have x3:=heap_cell hX 3
          have x4:=heap_cell hX 4
          clear hX hb hall
          have hi0:(0:Int)≤(i:Int):=by omega
          by_cases hlt:i<n
          · have hlt':(i:Int)<(n:Int):=by omega
            have hl:i<ks.length:=by rw[HN.out];exact hlt
            obtain ⟨g,o,cc,e1,hc⟩:=(HK.out.far HB.out).cell (List.getElem?_eq_getElem hl)
            rw[HN.out] at e1
            injection e1 with e1 _ e1c
            subst e1 e1c
            have hst:ks.take (i+1)=ks.take i++[ks[i]]:=by rw[List.take_add_one,List.getElem?_eq_getElem hl];rfl
            generalize ks[i]=t1 at *
            by_cases h5:(50:Int)<(t1.size:Int)
            · clear hst hl
              go_wp2
              go_ret
              exact ⟨⟨false,rfl,fun e=>by cases e⟩,HB.out⟩
            · have HST:Hid (∀t∈ks.take (i+1),t.size≤50):=Lib.hid (by
                intro t ht
                rw[hst] at ht
                rcases List.mem_append.1 ht with ht | ht
                · exact HA.out t ht
                · rw[List.mem_singleton.1 ht];omega)
              clear hst hl
              go_wp2_with fail
              go_roundg (n-(i+1))
              case rel=>exact ⟨i+1,rfl,by omega,by go_num,HST.out,HX.out,HB.out⟩
              case measure=>omega
          · have hlt':¬((i:Int)<(n:Int)):=by omega
            have HAK:Hid (∀t∈ks,t.size≤50):=Lib.hid (by
              have h:=HA.out
              rwa [List.take_of_length_le (by rw[HN.out];omega)] at h)
            clear HA
            go_wp2_with fail
            clear x3 x4 hlt' hlt hi0 hi
            go_loopg [4] n' (fun gh v wr=>∃(i:Nat),gh=n'-i∧i≤n'∧v=.int .i64 i∧(∀t∈us.take i,t.size≤50)∧wr.heap[w.heap.size]? =some (.cells #[.int .i64 s,.bool b,.string num,.slice a n c,.slice a' n' c'] 24 (0,0))∧Below w.heap.size w wr)
            case atStart=>exact ⟨0,rfl,Nat.zero_le _,rfl,(fun t ht=>by simp at ht),HX.out,HB.out⟩
            case round=>
              obtain ⟨i,rfl,hi,rfl,hall,hX,hb⟩:=hrel
              clear HX HB
              have HB:=Lib.hid hb
              have HX:=Lib.hid hX
              have HA:=Lib.hid hall
              have x4:=heap_cell hX 4
              clear hX hb hall
              have hi0:(0:Int)≤(i:Int):=by omega
              by_cases hlt:i<n'
              · have hlt':(i:Int)<(n':Int):=by omega
                have hl:i<us.length:=by rw[HN'.out];exact hlt
                obtain ⟨g,o,cc,e1,hc⟩:=(HU.out.far HB.out).cell (List.getElem?_eq_getElem hl)
                rw[HN'.out] at e1
                injection e1 with e1 _ e1c
                subst e1 e1c
                have hst:us.take (i+1)=us.take i++[us[i]]:=by rw[List.take_add_one,List.getElem?_eq_getElem hl];rfl
                generalize us[i]=t1 at *
                by_cases h5:(50:Int)<(t1.size:Int)
                · clear hst hl
                  go_wp2
                  go_ret
                  exact ⟨⟨false,rfl,fun e=>by cases e⟩,HB.out⟩
                · have HST:Hid (∀t∈us.take (i+1),t.size≤50):=Lib.hid (by
                    intro t ht
                    rw[hst] at ht
                    rcases List.mem_append.1 ht with ht | ht
                    · exact HA.out t ht
                    · rw[List.mem_singleton.1 ht];omega)
                  clear hst hl
                  go_wp2_with fail
                  go_roundg (n'-(i+1))
                  case rel=>exact ⟨i+1,rfl,by omega,by go_num,HST.out,HX.out,HB.out⟩
                  case measure=>omega
              · have hlt':¬((i:Int)<(n':Int)):=by omega
                have HAU:Hid (∀t∈us,t.size≤50):=Lib.hid (by
                  have h:=HA.out
                  rwa [List.take_of_length_le (by rw[HN'.out];omega)] at h)
                clear HA
                go_wp2
                go_ret
                exact ⟨⟨true,rfl,fun _=>⟨HK.out,HU.out,by rw[HN.out];exact HL.out.2.1,by rw[HN'.out];exact HL.out.2.2,HL.out.1,HAK.out,HAU.out⟩⟩,HB.out⟩
end
end Go.Proofs.YtpkfnnkbfphfbaaGreatDoor.Se
/- The program and the reference hand back the same: Store and At at values of any contents, and at drawn arrays. -/
namespace Go.Proofs.YtpkfnnkbfphfbaaGreatDoor.Se
open Go.RowKit Nmx

structure StP (s':Int) (t':ByteArray) (ts us:List ByteArray) (er:Int) (W:World) (e:Ending) (w':World):Prop where
  ex:∃k' u',e=.returned (.tuple #[valV s' false t' k' u',.int .i64 er])∧VR w' t' ts us k' u'
  bel:Below W.heap.size W w'
theorem vr_zero (w:World):VR w ⟨#[]⟩ [] [] (.slice none 0 0) (.slice none 0 0):=
  ⟨⟨⟨none,0,rfl,fun _=>rfl,Nat.le_refl _⟩,fun hj=>by cases hj⟩,⟨⟨none,0,rfl,fun _=>rfl,Nat.le_refl _⟩,fun hj=>by cases hj⟩,Nat.zero_le _,Nat.zero_le _,Nat.zero_le _⟩
theorem AR.vr {w:World} {d:Int} {l:Arx.L} {k u:Value} (h:AR w d l k u):VR w (TI d) (kT l) (vT l) k u:=
  ⟨h.ks,h.us,by rw[kT,List.length_map];exact h.ln,by rw[vT,List.length_map];exact h.ln,Nat.le_trans h.sd.sz (by decide)⟩
theorem store_ar {d x v:Int} {l:Arx.L} {k u:Value} (w:World) (hE:Env w) (h:AR w d l k u) (hx:Sm x) (hv:Sm v) (hl:l.length≤20):
    ∃(s':Int) (t':ByteArray) (ts us:List ByteArray) (er:Int),(∀W,Below w.heap.size w W→Calls Tryz.prog 18 #[valV 4 false (TI d) k u,.string (TI x),.string (TI v)] W (StP s' t' ts us er W))∧(∀W,Below w.heap.size w W→Calls Tryz.prog 19 #[valV 4 false (TI d) k u,.string (TI x),.string (TI v)] W (StP s' t' ts us er W)):=
  ⟨4,TI d,kT (Arx.stA d l x v),vT (Arx.stA d l x v),0,
    fun W hW=>(storeV W (hE.far hW) (h.far hW) hx hv (by omega)).mono fun _ _ ⟨k',u',e,hav,hb⟩=>⟨⟨k',u',e,hav.rd.vr⟩,hb⟩,
    fun W hW=>(refStore_av W (h.far hW) hx hv (by omega)).mono fun _ _ ⟨k',u',e,hav,hb⟩=>⟨⟨k',u',e,hav.rd.vr⟩,hb⟩⟩
theorem store_both {s:Int} {b:Bool} {num i v:ByteArray} {ks us:List ByteArray} {k u:Value} (w:World) (hE:Env w) (h:VS w num ks us k u) (hi:i.size≤50) (hv:v.size≤50):
    ∃(s':Int) (t':ByteArray) (ts us':List ByteArray) (er:Int),(∀W,Below w.heap.size w W→Calls Tryz.prog 18 #[valV s b num k u,.string i,.string v] W (StP s' t' ts us' er W))∧(∀W,Below w.heap.size w W→Calls Tryz.prog 19 #[valV s b num k u,.string i,.string v] W (StP s' t' ts us' er W)):=by
  have bad:(¬s=4∨(s=4∧(!b && vaF num ks us)=false)∨(s=4∧(!b && vaF num ks us)=true∧iN i=false)∨(s=4∧(!b && vaF num ks us)=true∧iN i=true∧iN v=false))→∃(s':Int) (t':ByteArray) (ts us':List ByteArray) (er:Int),(∀W,Below w.heap.size w W→Calls Tryz.prog 18 #[valV s b num k u,.string i,.string v] W (StP s' t' ts us' er W))∧(∀W,Below w.heap.size w W→Calls Tryz.prog 19 #[valV s b num k u,.string i,.string v] W (StP s' t' ts us' er W)):=by
    intro hc
    have hc2:∀{q:Bool},((s=4)→(!b && vaF num ks us)=q)→(¬s=4∨(s=4∧q=false)∨(s=4∧q=true∧iN i=false)∨(s=4∧q=true∧iN i=true∧iN v=false)):=by
      intro q hq
      rcases hc with h | ⟨h,g⟩ | ⟨h,g,g2⟩ | ⟨h,g,g2,g3⟩
      · exact .inl h
      · exact .inr (.inl ⟨h,(hq h).symm.trans g⟩)
      · exact .inr (.inr (.inl ⟨h,(hq h).symm.trans g,g2⟩))
      · exact .inr (.inr (.inr ⟨h,(hq h).symm.trans g,g2,g3⟩))
    by_cases hs:s=4
    · subst hs
      refine ⟨0,⟨#[]⟩,[],[],1,fun W hW=>?_,fun W hW=>?_⟩
      · refine (store_no W (h.kr.far hW) (h.ur.far hW) (fun _ W' hW'=>validR_any W' ((hE.far hW).far hW') ((h.far hW).far hW')) (fun _ W' hW'=>isInt_q i W' (by omega) ((hE.far hW).far hW')) (fun _ W' hW'=>isInt_q v W' (by omega) ((hE.far hW).far hW')) (hc2 fun _=>rfl)).mono ?_
        rintro e w' ⟨rfl,hb⟩
        exact ⟨⟨_,_,rfl,vr_zero _⟩,hb⟩
      · refine (refStore_no W (h.kr.far hW) (h.ur.far hW) (fun _ W' hW'=>refValidR_any W' ((h.far hW).far hW')) (fun _ W' _=>rIsInt_q i W' (by omega)) (fun _ W' _=>rIsInt_q v W' (by omega)) (hc2 fun _=>rfl)).mono ?_
        rintro e w' ⟨rfl,hb⟩
        exact ⟨⟨_,_,rfl,vr_zero _⟩,hb⟩
    · refine ⟨0,⟨#[]⟩,[],[],1,fun W hW=>?_,fun W hW=>?_⟩
      · refine (store_no (q:=true) (r:=true) (r2:=true) W (h.kr.far hW) (h.ur.far hW) (fun e=>absurd e hs) (fun e=>absurd e hs) (fun e=>absurd e hs) (.inl hs)).mono ?_
        rintro e w' ⟨rfl,hb⟩
        exact ⟨⟨_,_,rfl,vr_zero _⟩,hb⟩
      · refine (refStore_no (q:=true) (r:=true) (r2:=true) W (h.kr.far hW) (h.ur.far hW) (fun e=>absurd e hs) (fun e=>absurd e hs) (fun e=>absurd e hs) (.inl hs)).mono ?_
        rintro e w' ⟨rfl,hb⟩
        exact ⟨⟨_,_,rfl,vr_zero _⟩,hb⟩
  by_cases hs:s=4
  · cases hq:(!b && vaF num ks us) with
    | false=>exact bad (.inr (.inl ⟨hs,hq⟩))
    | true=>
      cases hii:iN i with
      | false=>exact bad (.inr (.inr (.inl ⟨hs,hq,hii⟩)))
      | true=>
        cases hvv:iN v with
        | false=>exact bad (.inr (.inr (.inr ⟨hs,hq,hii,hvv⟩)))
        | true=>
          obtain ⟨x,rfl,hx⟩:=iN_ti hii hi
          obtain ⟨z,rfl,hz⟩:=iN_ti hvv hv
          have hb:b=false:=by cases b with
            | false=>rfl
            | true=>simp at hq
          subst hb hs
          obtain ⟨d,l,rfl,hll,har⟩:=h.arr (by simpa using hq)
          exact store_ar w hE har hx hz (by have:=h.ln;omega)
  · exact bad (.inl hs)
def AtB (w:World) (v:Value) (i t:ByteArray):Prop:=(∀W,Below w.heap.size w W→Calls Tryz.prog 20 #[v,.string i] W fun e w'=>e=.returned (.string t)∧Below W.heap.size W w')∧(∀W,Below w.heap.size w W→Calls Tryz.prog 21 #[v,.string i] W fun e w'=>e=.returned (.string t)∧Below W.heap.size W w')
theorem at_ar {d:Int} {l:Arx.L} {k u:Value} {i:ByteArray} (w:World) (hE:Env w) (h:AR w d l k u) (hi:i.size≤50):∃t,AtB w (valV 4 false (TI d) k u) i t:=by
  cases hii:iN i with
  | true=>
    obtain ⟨x,rfl,hx⟩:=iN_ti hii hi
    exact ⟨_,fun W hW=>atV W (hE.far hW) (h.far hW) hx,fun W hW=>refAtR W (h.far hW) hx⟩
  | false=>
    refine ⟨⟨#[]⟩,fun W hW=>?_,fun W hW=>?_⟩
    · refine at_no (q:=true) (r:=false) W (h.ks.far hW) (h.us.far hW) (fun _ W' hW'=>valid_av W' ((hE.far hW).far hW') ((h.far hW).far hW')) (fun _ W' hW'=>?_) (.inr (.inr ⟨rfl,rfl,rfl⟩))
      have:=isInt_q i W' (by omega) ((hE.far hW).far hW')
      rwa [hii] at this
    · refine refAt_no (q:=true) (r:=false) W (h.ks.far hW) (h.us.far hW) (fun _ W' hW'=>refValid_av W' ((h.far hW).far hW')) (fun _ W' hW'=>?_) (.inr (.inr ⟨rfl,rfl,rfl⟩))
      have:=rIsInt_q i W' (by omega)
      rwa [hii] at this
theorem at_sm2 {d x:Int} {l:Arx.L} {k u:Value} (w:World) (hE:Env w) (h:AR w d l k u) (hx:Sm x):∃t,AtB w (valV 4 false (TI d) k u) (TI x) t:=
  ⟨_,fun W hW=>atV W (hE.far hW) (h.far hW) hx,fun W hW=>refAtR W (h.far hW) hx⟩
theorem at_both {s:Int} {b:Bool} {num i:ByteArray} {ks us:List ByteArray} {k u:Value} (w:World) (hE:Env w) (h:VS w num ks us k u) (hi:i.size≤50):∃t,AtB w (valV s b num k u) i t:=by
  by_cases hs:s=4
  · subst hs
    cases hq:(!b && vaF num ks us) with
    | false=>
      refine ⟨⟨#[]⟩,fun W hW=>?_,fun W hW=>?_⟩
      · exact at_no W (h.kr.far hW) (h.ur.far hW) (fun _ W' hW'=>validR_any W' ((hE.far hW).far hW') ((h.far hW).far hW')) (fun _ W' hW'=>isInt_q i W' (by omega) ((hE.far hW).far hW')) (.inr (.inl ⟨rfl,hq⟩))
      · exact refAt_no W (h.kr.far hW) (h.ur.far hW) (fun _ W' hW'=>refValidR_any W' ((h.far hW).far hW')) (fun _ W' _=>rIsInt_q i W' (by omega)) (.inr (.inl ⟨rfl,hq⟩))
    | true=>
      have hb:b=false:=by cases b with
        | false=>rfl
        | true=>simp at hq
      subst hb
      obtain ⟨d,l,rfl,hll,har⟩:=h.arr (by simpa using hq)
      exact at_ar w hE har hi
  · exact ⟨⟨#[]⟩,fun W hW=>at_no (q:=true) (r:=true) W (h.kr.far hW) (h.ur.far hW) (fun e=>absurd e hs) (fun e=>absurd e hs) (.inl hs),fun W hW=>refAt_no (q:=true) (r:=true) W (h.kr.far hW) (h.ur.far hW) (fun e=>absurd e hs) (fun e=>absurd e hs) (.inl hs)⟩
end Go.Proofs.YtpkfnnkbfphfbaaGreatDoor.Se

/- value.Store, value.Equal, value.Zero. -/
import Derived.Test.YtpkfnnkbfphfbaaGreatDoorGEG
set_option maxRecDepth 100000
set_option maxHeartbeats 40000000
namespace Go.Proofs.YtpkfnnkbfphfbaaGreatDoor.Se
open Go.RowKit Nmx

section
theorem storeV {d x v:Int} {l:Arx.L} {k u:Value} (w:World) (hE:Env w) (h:AR w d l k u) (hx:Sm x) (hv:Sm v) (hl:l.length<1000):
    Calls Tryz.prog 18 #[valV 4 false (TI d) k u,.string (TI x),.string (TI v)] w fun e w'=>∃k' u',e=.returned (.tuple #[valV 4 false (TI d) k' u',.int .i64 0])∧AV w.heap.size w' d (Arx.stA d l x v) k' u'∧Below w.heap.size w w':=by
  have hA:=alloc_far' w (.cells #[.int .i64 4,.bool false,.string (TI d),k,u] 24)
  have hA2:=alloc_far' (w.alloc (.cells #[.int .i64 4,.bool false,.string (TI d),k,u] 24)) (.cells #[.int .i64 0,.bool false,.string ⟨#[]⟩,.slice none 0 0,.slice none 0 0] 24)
  have b1:=(hA2.block _ (lt_of_heap (heap_alloc_new w (.cells #[.int .i64 4,.bool false,.string (TI d),k,u] 24)))).trans (heap_alloc_new w (.cells #[.int .i64 4,.bool false,.string (TI d),k,u] 24))
  have b2:=heap_alloc_new (w.alloc (.cells #[.int .i64 4,.bool false,.string (TI d),k,u] 24)) (.cells #[.int .i64 0,.bool false,.string ⟨#[]⟩,.slice none 0 0,.slice none 0 0] 24)
  rw[show (w.alloc (.cells #[.int .i64 4,.bool false,.string (TI d),k,u] 24)).heap.size=w.heap.size+1 by simp] at b2
  have hB:=hA.trans (hA2.mono hA.size)
  have hva:=valid_av _ (hE.far hB) (h.far hB)
  have HIX:=Lib.hid fun W (hW:Below w.heap.size w W)=>numIsIntI hx W (hE.far hW)
  have HIV:=Lib.hid fun W (hW:Below w.heap.size w W)=>numIsIntI hv W (hE.far hW)
  have HST:=Lib.hid fun W (hW:Below w.heap.size w W)=>store_av W (hE.far hW) (h.far hW) hx hv hl
  have HB:=Lib.hid hB
  have HX1:=Lib.hid b1
  have HX2:=Lib.hid b2
  obtain ⟨a,c,a',c',rfl,rfl⟩:=h.form
  unfold valV at hva HST ⊢
  generalize TI d=td at *
  generalize TI x=tx at *
  generalize TI v=tv at *
  clear hA hA2 b1 b2 hB h hE
  generalize l.length=n at *
  go_enter Tryz.func18,Tryz.ntmps18
  go_wp2_with fail
  generalize hw1:World.alloc _ _=w1 at *
  refine hva.mono ?_
  rintro e w2 ⟨rfl,hb⟩
  have HX3:=Lib.hid ((hb.block _ (lt_of_heap HX1.out)).trans HX1.out)
  have HX4:=Lib.hid ((hb.block _ (lt_of_heap HX2.out)).trans HX2.out)
  have HB2:=Lib.hid (HB.out.trans (hb.mono HB.out.size))
  clear hb hva HX1 HX2 HB hw1
  go_wp2_with fail
  refine (HIX.out _ HB2.out).mono ?_
  rintro e w3 ⟨rfl,hb⟩
  have HX5:=Lib.hid ((hb.block _ (lt_of_heap HX3.out)).trans HX3.out)
  have HX6:=Lib.hid ((hb.block _ (lt_of_heap HX4.out)).trans HX4.out)
  have HB3:=Lib.hid (HB2.out.trans (hb.mono HB2.out.size))
  clear hb HX3 HX4 HB2
  go_wp2_with fail
  refine (HIV.out _ HB3.out).mono ?_
  rintro e w4 ⟨rfl,hb⟩
  have hX:=(hb.block _ (lt_of_heap HX5.out)).trans HX5.out
  have x0:=heap_cell hX 0
  have x1:=heap_cell hX 1
  have x2:=heap_cell hX 2
  have x3:=heap_cell hX 3
  have x4:=heap_cell hX 4
  have HX7:=Lib.hid ((hb.block _ (lt_of_heap HX6.out)).trans HX6.out)
  have HB4:=Lib.hid (HB3.out.trans (hb.mono HB3.out.size))
  clear hb hX HX5 HX6 HB3
  go_wp2_with fail
  refine (HST.out _ HB4.out).mono ?_
  rintro e w5 ⟨k',u',rfl,hav,hb⟩
  obtain ⟨a1,c1,a2,c2,rfl,rfl⟩:=hav.form
  have hR:=(hb.block _ (lt_of_heap HX7.out)).trans HX7.out
  have HAV:=Lib.hid hav
  have HB5:=Lib.hid (HB4.out.trans (hb.mono HB4.out.size))
  have HLT:Hid (w.heap.size≤w4.heap.size):=Lib.hid HB4.out.size
  have f0:=heap_cell hR 0
  have f1:=heap_cell hR 1
  have f2:=heap_cell hR 2
  have f3:=heap_cell hR 3
  have f4:=heap_cell hR 4
  have g0:=heap_fz hR 0
  have g1:=heap_fz hR 1
  have g2:=heap_fz hR 2
  have g3:=heap_fz hR 3
  have g4:=heap_fz hR 4
  have HR:=Lib.hid hR
  clear hb hR hav x0 x1 x2 x3 x4
  generalize (Arx.stA d l x v).length=m at *
  go_wp2
  obtain ⟨s1,s2,s3⟩:=box5 HR.out td (.slice a1 m c1) (.slice a2 m c2)
  refine end_val2 (E:=0) rfl rfl rfl rfl ⟨_,_,_,rfl⟩ ⟨_,_,_,rfl⟩ (s1 rfl) ⟨_,_,rfl,⟨SRow.down (ownsRow_block HAV.out.ks fun g hg=>s2 g (row_ne_box HAV.out.ks hg HR.out)) HLT.out,SRow.down (ownsRow_block HAV.out.us fun g hg=>s2 g (row_ne_box HAV.out.us hg HR.out)) HLT.out,HAV.out.vd,HAV.out.sd,HAV.out.sl,HAV.out.ln⟩,s3 HB5.out (by omega)⟩
theorem rowEq {k k':Value} {ts ts':List ByteArray} (w:World) (h:RRow w k ts) (h':RRow w k' ts') (hl:ts.length≤100000) (hl':ts'.length≤100000):
    Calls Tryz.prog 46 #[k,k'] w fun e w'=>e=.returned (.bool (decide (ts=ts')))∧Below w.heap.size w w':=by
  by_cases hn:ts.length=ts'.length
  · by_cases h0:ts.length=0
    · obtain ⟨a,c,rfl,-⟩:=h.sl
      obtain ⟨a',c',rfl,-⟩:=h'.sl
      obtain rfl:=List.eq_nil_of_length_eq_zero h0
      obtain rfl:=List.eq_nil_of_length_eq_zero (hn.symm.trans h0)
      refine (Tryz.slices_Equal_string_empty a a' c 0 c' w (by omega)).mono ?_
      rintro e w' ⟨rfl,rfl⟩
      exact ⟨by simp,Below.refl _ _⟩
    · obtain ⟨g,o,c,rfl,-⟩:=h.cell (List.getElem?_eq_getElem (show 0<ts.length by omega))
      obtain ⟨g',o',c',rfl,-⟩:=h'.cell (List.getElem?_eq_getElem (show 0<ts'.length by omega))
      refine (Tryz.slices_Equal_string g o ts.length c g' o' ts'.length c' ts ts' w (Nat.le_refl _) (Nat.le_refl _) (by omega) (by omega) (fun j hj=>?_) (fun j hj=>?_)).mono ?_
      · obtain ⟨g1,o1,c1,e,hc⟩:=h.cell (List.getElem?_eq_getElem hj)
        injection e with e _ _
        injection Option.some.inj e with e e2 _
        subst e e2
        rw[hc];simp[hj]
      · obtain ⟨g1,o1,c1,e,hc⟩:=h'.cell (List.getElem?_eq_getElem hj)
        injection e with e _ _
        injection Option.some.inj e with e e2 _
        subst e e2
        rw[hc];simp[hj]
      · rintro e w' ⟨rfl,q,rfl⟩
        rw[List.take_length,List.take_length]
        exact ⟨rfl,below_drewN (Below.refl _ _) q⟩
  · obtain ⟨a,c,rfl,-⟩:=h.sl
    obtain ⟨a',c',rfl,-⟩:=h'.sl
    refine (Tryz.slices_Equal_string_lens a a' ts.length c ts'.length c' w hn).mono ?_
    rintro e w' ⟨rfl,rfl⟩
    exact ⟨by rw[decide_eq_false (fun e=>hn (by rw[e]))],Below.refl _ _⟩
theorem kv_inj {l l':Arx.L} (hk:kT l=kT l') (hv:vT l=vT l'):l=l':=by
  apply List.ext_getElem
  · have:=congrArg List.length hk;simpa [kT] using this
  · intro i h1 h2
    have a1:(kT l)[i]? =(kT l')[i]? :=by rw[hk]
    have a2:(vT l)[i]? =(vT l')[i]? :=by rw[hv]
    simp only[kT,vT,List.getElem?_map,List.getElem?_eq_getElem h1,List.getElem?_eq_getElem h2,Option.map_some,Option.some.injEq] at a1 a2
    exact Prod.ext (ti_inj a1) (ti_inj a2)
theorem equalV {d d':Int} {l l':Arx.L} {k u k' u':Value} (w:World) (h:AR w d l k u) (h':AR w d' l' k' u'):
    Calls Tryz.prog 22 #[valV 4 false (TI d) k u,valV 4 false (TI d') k' u'] w fun e w'=>e=.returned (.bool (decide (d=d'∧l=l')))∧Below w.heap.size w w':=by
  have hA:=alloc_far' w (.cells #[.int .i64 4,.bool false,.string (TI d),k,u] 24)
  have hA2:=alloc_far' (w.alloc (.cells #[.int .i64 4,.bool false,.string (TI d),k,u] 24)) (.cells #[.int .i64 4,.bool false,.string (TI d'),k',u'] 24)
  have b1:=(hA2.block _ (lt_of_heap (heap_alloc_new w (.cells #[.int .i64 4,.bool false,.string (TI d),k,u] 24)))).trans (heap_alloc_new w (.cells #[.int .i64 4,.bool false,.string (TI d),k,u] 24))
  have b2:=heap_alloc_new (w.alloc (.cells #[.int .i64 4,.bool false,.string (TI d),k,u] 24)) (.cells #[.int .i64 4,.bool false,.string (TI d'),k',u'] 24)
  rw[show (w.alloc (.cells #[.int .i64 4,.bool false,.string (TI d),k,u] 24)).heap.size=w.heap.size+1 by simp] at b2
  have hB:=hA.trans (hA2.mono hA.size)
  have HK:=Lib.hid fun W (hW:Below w.heap.size w W)=>rowEq W (h.ks.far hW) (h'.ks.far hW) (by have:=h.ln;simp[kT];omega) (by have:=h'.ln;simp[kT];omega)
  have HU:=Lib.hid fun W (hW:Below w.heap.size w W)=>rowEq W (h.us.far hW) (h'.us.far hW) (by have:=h.ln;simp[vT];omega) (by have:=h'.ln;simp[vT];omega)
  have HB:=Lib.hid hB
  have HX1:=Lib.hid b1
  have HX2:=Lib.hid b2
  have heq:=ti_eq d d'
  obtain ⟨a,c,a',c',rfl,rfl⟩:=h.form
  obtain ⟨a1,c1,a1',c1',rfl,rfl⟩:=h'.form
  unfold valV
  generalize TI d=td at *
  generalize TI d'=td' at *
  clear hA hA2 b1 b2 hB h h'
  obtain ⟨bk,hbk⟩:∃b,decide (kT l=kT l')=b:=⟨_,rfl⟩
  obtain ⟨bu,hbu⟩:∃b,decide (vT l=vT l')=b:=⟨_,rfl⟩
  have HIN:=Lib.hid (@kv_inj l l')
  rw[hbk] at HK
  rw[hbu] at HU
  have HBK:=Lib.hid hbk
  have HBU:=Lib.hid hbu
  clear hbk hbu
  generalize l.length=n at *
  generalize l'.length=n' at *
  by_cases hd:d=d'
  · have hq:(td.toList==td'.toList)=true:=by rw[heq];exact decide_eq_true hd
    have HD:=Lib.hid hd
    clear heq hd
    go_enter Tryz.func22,Tryz.ntmps22
    go_wp2_with fail
    generalize hw1:World.alloc _ _=w1 at *
    refine (HK.out _ HB.out).mono ?_
    rintro e w2 ⟨rfl,hb⟩
    have hX1:=(hb.block _ (lt_of_heap HX1.out)).trans HX1.out
    have hX2:=(hb.block _ (lt_of_heap HX2.out)).trans HX2.out
    have x4:=heap_cell hX1 4
    have y4:=heap_cell hX2 4
    have HB2:=Lib.hid (HB.out.trans (hb.mono HB.out.size))
    clear hb hX1 hX2 HX1 HX2 HB hw1
    cases bk with
    | false=>
      go_wp2
      go_ret
      refine ⟨ret_bool (decide_eq_false ?_).symm,HB2.out⟩
      rintro ⟨-,e⟩
      have:=of_decide_eq_false HBK.out
      exact this (by rw[e])
    | true=>
      go_wp2_with fail
      refine (HU.out _ HB2.out).mono ?_
      rintro e w3 ⟨rfl,hb⟩
      have HB3:=Lib.hid (HB2.out.trans (hb.mono HB2.out.size))
      clear hb x4 y4
      go_wp2
      go_ret
      refine ⟨ret_bool ?_,HB3.out⟩
      have hk:=of_decide_eq_true HBK.out
      cases bu with
      | false=>
        have:=of_decide_eq_false HBU.out
        exact (decide_eq_false (by rintro ⟨-,e⟩;exact this (by rw[e]))).symm
      | true=>exact (decide_eq_true ⟨HD.out,HIN.out hk (of_decide_eq_true HBU.out)⟩).symm
  · have hq:(td.toList==td'.toList)=false:=by rw[heq];exact decide_eq_false hd
    have HD:Hid (¬d=d'):=Lib.hid hd
    clear heq hd
    go_enter Tryz.func22,Tryz.ntmps22
    go_wp2
    go_ret
    exact ⟨ret_bool (decide_eq_false fun e=>HD.out e.1).symm,HB.out⟩
def zeroT (s:Int):ByteArray:=if s=1 then ⟨#[]⟩ else ⟨#[48]⟩
theorem zeroV (s:Int) (hs:s=1∨s=2∨s=3∨s=4) (w:World):
    Calls Tryz.prog 8 #[.int .i64 s] w fun e w'=>e=.returned (.tuple #[valV s false (zeroT s) noS noS,.int .i64 0])∧Below w.heap.size w w':=by
  unfold valV noS
  rcases hs with rfl | rfl | rfl | rfl
  all_goals
    go_enter Tryz.func8,Tryz.ntmps8
    go_wp2
    exact end_val2 (E:=0) rfl rfl rfl rfl ⟨_,_,_,rfl⟩ ⟨_,_,_,rfl⟩ (heap_alloc_new w _) ⟨rfl,alloc_far' w _⟩
end
end Go.Proofs.YtpkfnnkbfphfbaaGreatDoor.Se

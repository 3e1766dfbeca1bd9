/- The reference's equality of rows of texts and of values, whatever they hold. -/
import Derived.Test.YtpkfnnkbfphfbaaGreatDoorGEH
import Derived.Test.YtpkfnnkbfphfbaaGreatDoorGGC
set_option maxRecDepth 100000
set_option maxHeartbeats 40000000
namespace Go.Proofs.YtpkfnnkbfphfbaaGreatDoor.Se
open Go.RowKit Nmx

theorem RRow.len {w:World} {u:Value} {ts:List ByteArray} (h:RRow w u ts):∃a c,u=.slice a ts.length c:=let ⟨a,c,e,_⟩:=h.sl;⟨a,c,e⟩
theorem bytes_eq (a b:ByteArray):(a.toList==b.toList)=decide (a=b):=by
  by_cases h:a=b
  · subst h;simp
  · rw[decide_eq_false h]
    refine beq_false_of_ne fun e=>h ?_
    have e1:=bytes_of (s:=a) (x:=a.toList) rfl
    have e2:=bytes_of (s:=b) (x:=b.toList) rfl
    rw[e] at e1
    exact e1.trans e2.symm
section
theorem refTexts_any {k k':Value} {ts ts':List ByteArray} (w:World) (h:RRow w k ts) (h':RRow w k' ts') (hl:ts.length≤100000):
    Calls Tryz.prog 31 #[k,k'] w fun e w'=>e=.returned (.bool (decide (ts=ts')))∧Below w.heap.size w w':=by
  by_cases hn:ts.length=ts'.length
  · obtain ⟨a,c,rfl⟩:=h.len
    obtain ⟨a',c',rfl⟩:=h'.len
    have HK:=Lib.hid h
    have HK':=Lib.hid h'
    have HL:=Lib.hid hn
    obtain ⟨n,hnn⟩:∃n,ts.length=n:=⟨_,rfl⟩
    have HN:=Lib.hid hnn
    have hn':ts'.length=n:=hn.symm.trans hnn
    have HN':=Lib.hid hn'
    rw[hnn,hn']
    rw[hnn] at hl
    clear hn hnn hn' h h'
    go_enter Tryz.func31,Tryz.ntmps31
    go_wp2_with fail
    go_loopg [5] n (fun gh v wr=>∃(i:Nat),gh=n-i∧i≤n∧v=.int .i64 i∧ts.take i=ts'.take i∧Below w.heap.size w wr)
    case atStart=>exact ⟨0,rfl,Nat.zero_le _,rfl,rfl,Below.refl _ _⟩
    case round=>
      obtain ⟨i,rfl,hi,rfl,ht,hb⟩:=hrel
      have HB:=Lib.hid hb
      have HT:=Lib.hid ht
      clear hb ht
      have hi0:(0:Int)≤(i:Int):=by omega
      by_cases hlt:i<n
      · have hlt':(i:Int)<(n:Int):=by omega
        have hl1:i<ts.length:=by rw[HN.out];exact hlt
        have hl2:i<ts'.length:=by rw[HN'.out];exact hlt
        obtain ⟨g,o,cc,e1,hk⟩:=(HK.out.far HB.out).cell (List.getElem?_eq_getElem hl1)
        obtain ⟨g',o',cc',e2,hu⟩:=(HK'.out.far HB.out).cell (List.getElem?_eq_getElem hl2)
        rw[HN.out] at e1
        rw[HN'.out] at e2
        injection e1 with e1 _ e1c
        injection e2 with e2 _ e2c
        subst e1 e2 e1c e2c
        have hq:=bytes_eq ts[i] ts'[i]
        by_cases he:ts[i]=ts'[i]
        · rw[decide_eq_true he] at hq
          have HST:Hid (ts.take (i+1)=ts'.take (i+1)):=Lib.hid (by rw[List.take_add_one,List.take_add_one,HT.out,List.getElem?_eq_getElem hl1,List.getElem?_eq_getElem hl2,he])
          generalize ts[i]=t1 at *
          generalize ts'[i]=t2 at *
          clear he hl1 hl2
          go_wp2_with fail
          go_quiet (fail)
          go_wp2_with fail
          go_roundg (n-(i+1))
          case rel=>exact ⟨i+1,rfl,by omega,by go_num,HST.out,below_drewN HB.out _⟩
          case measure=>omega
        · rw[decide_eq_false he] at hq
          have HNE:Hid (¬ts=ts'):=Lib.hid (fun e=>he (by subst e;rfl))
          generalize ts[i]=t1 at *
          generalize ts'[i]=t2 at *
          clear he hl1 hl2
          go_wp2_with fail
          go_quiet (fail)
          go_wp2_with fail
          go_ret
          exact ⟨ret_bool (decide_eq_false HNE.out).symm,below_drewN HB.out _⟩
      · have hlt':¬((i:Int)<(n:Int)):=by omega
        have HEQ:Hid (ts=ts'):=Lib.hid (by
          have ht:=HT.out
          rw[List.take_of_length_le (by rw[HN.out];omega),List.take_of_length_le (by rw[HN'.out];omega)] at ht
          exact ht)
        go_wp2
        go_ret
        exact ⟨ret_bool (decide_eq_true HEQ.out).symm,HB.out⟩
  · obtain ⟨a,c,rfl⟩:=h.len
    obtain ⟨a',c',rfl⟩:=h'.len
    have HNE:Hid (¬ts=ts'):=Lib.hid (fun e=>hn (by rw[e]))
    have hni:¬(ts.length:Int)=(ts'.length:Int):=by omega
    generalize ts.length=n at *
    generalize ts'.length=n' at *
    clear hn h h'
    go_enter Tryz.func31,Tryz.ntmps31
    go_wp2
    go_ret
    exact ⟨ret_bool (decide_eq_false HNE.out).symm,Below.refl _ _⟩
structure VR (w:World) (num:ByteArray) (ks us:List ByteArray) (k u:Value):Prop where
  kr:RRow w k ks
  ur:RRow w u us
  ln:ks.length≤1000
  lu:us.length≤1000
  sn:num.size≤1000
theorem VR.far {w w':World} {num:ByteArray} {ks us:List ByteArray} {k u:Value} (h:VR w num ks us k u) (hb:Below w.heap.size w w'):VR w' num ks us k u:=⟨h.kr.far hb,h.ur.far hb,h.ln,h.lu,h.sn⟩
theorem refEqual_same {num:ByteArray} {s:Int} {b:Bool} {ks us:List ByteArray} {k u k' u':Value} (w:World) (h:VR w num ks us k u) (h':VR w num ks us k' u'):
    Calls Tryz.prog 11 #[valV s b num k u,valV s b num k' u'] w fun e w'=>e=.returned (.bool true)∧Below w.heap.size w w':=by
  have hA:=alloc_far' w (.cells #[.int .i64 s,.bool b,.string num,k,u] 24)
  have hA2:=alloc_far' (w.alloc (.cells #[.int .i64 s,.bool b,.string num,k,u] 24)) (.cells #[.int .i64 s,.bool b,.string num,k',u'] 24)
  have b1:=(hA2.block _ (lt_of_heap (heap_alloc_new w (.cells #[.int .i64 s,.bool b,.string num,k,u] 24)))).trans (heap_alloc_new w (.cells #[.int .i64 s,.bool b,.string num,k,u] 24))
  have b2:=heap_alloc_new (w.alloc (.cells #[.int .i64 s,.bool b,.string num,k,u] 24)) (.cells #[.int .i64 s,.bool b,.string num,k',u'] 24)
  rw[show (w.alloc (.cells #[.int .i64 s,.bool b,.string num,k,u] 24)).heap.size=w.heap.size+1 by simp] at b2
  have hB:=hA.trans (hA2.mono hA.size)
  have HK:=Lib.hid fun W (hW:Below w.heap.size w W)=>refTexts_any W (h.kr.far hW) (h'.kr.far hW) (by have:=h.ln;omega)
  have HU:=Lib.hid fun W (hW:Below w.heap.size w W)=>refTexts_any W (h.ur.far hW) (h'.ur.far hW) (by have:=h.lu;omega)
  rw[decide_eq_true rfl] at HK HU
  have HB:=Lib.hid hB
  have HX1:=Lib.hid b1
  have HX2:=Lib.hid b2
  have hq:(num.toList==num.toList)=true:=by rw[bytes_eq];exact decide_eq_true rfl
  obtain ⟨a,c,rfl⟩:=h.kr.len
  obtain ⟨a',c',rfl⟩:=h.ur.len
  obtain ⟨a1,c1,rfl⟩:=h'.kr.len
  obtain ⟨a1',c1',rfl⟩:=h'.ur.len
  unfold valV
  clear hA hA2 b1 b2 hB h h'
  generalize ks.length=n at *
  generalize us.length=n' at *
  go_enter Tryz.func11,Tryz.ntmps11
  go_wp2_with fail
  generalize hw1:World.alloc _ _=w1 at *
  refine (HK.out _ HB.out).mono ?_
  rintro e w2 ⟨rfl,hb⟩
  have hX1:=(hb.block _ (lt_of_heap HX1.out)).trans HX1.out
  have hX2:=(hb.block _ (lt_of_heap HX2.out)).trans HX2.out
  have x4:=heap_cell hX1 4
  have y4:=heap_cell hX2 4
  have HB2:=Lib.hid (HB.out.trans (hb.mono HB.out.size))
  clear hb hX1 hX2 HX1 HX2 HB hw1
  go_wp2_with fail
  refine (HU.out _ HB2.out).mono ?_
  rintro e w3 ⟨rfl,hb⟩
  have HB3:=Lib.hid (HB2.out.trans (hb.mono HB2.out.size))
  clear hb x4 y4
  go_wp2
  go_ret
  exact ⟨rfl,HB3.out⟩
end
end Go.Proofs.YtpkfnnkbfphfbaaGreatDoor.Se

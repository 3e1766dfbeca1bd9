/- The place of a key: sort.Find at the keys of an array. -/
import Derived.Test.YtpkfnnkbfphfbaaGreatDoorLEC
set_option maxRecDepth 100000
set_option maxHeartbeats 40000000
namespace Go.Proofs.YtpkfnnkbfphfbaaGreatDoor.Se
open Go.RowKit Nmx

section
theorem find1_at {S bi ba:Nat} {d x:Int} {l:Arx.L} {k u:Value} {i:Nat} (w:World) (hE:Env w) (h:AV S w d l k u) (hx:Sm x) (hb:ABox ba (TI d) k u w) (hi:w.cell? ⟨bi,0,none⟩=some (.string (TI x))) (hil:i<l.length) {r:Int} (hr:cI x l[i].1=r):
    Calls Tryz.prog 104 #[.int .i64 i,.pointer (some ⟨bi,0,none⟩),.pointer (some ⟨ba,0,none⟩)] w fun e w'=>e=.returned (.int .i64 r)∧Below w.heap.size w w':=by
  obtain ⟨g,c,g',c',rfl,rfl,hk,-⟩:=h.cell hil
  have HCM:=Lib.hid fun W (hW:Below w.heap.size w W)=>numCmpI hx (h.sl _ (List.getElem_mem hil)).1 W (hE.far hW) hr
  obtain ⟨tx,htx⟩:∃t,TI x=t:=⟨_,rfl⟩
  obtain ⟨tk,htk⟩:∃t,TI l[i].1=t:=⟨_,rfl⟩
  rw[htx] at hi HCM
  rw[htk] at hk HCM
  have x3:=heap_cell hb 3
  have C0:Hid (∀W,Below w.heap.size w W→W.cell? ⟨bi,0,none⟩=some (.string tx)∧W.cell? ⟨g,i,none⟩=some (.string tk)∧W.cell? ⟨ba,3,none⟩=some (.slice (some ⟨g,0,none⟩) l.length c)):=Lib.hid fun W hW=>⟨(hW.cell (World.block_lt_of_cell? _ _ hi)).trans hi,(hW.cell (World.block_lt_of_cell? _ _ hk)).trans hk,(hW.cell (World.block_lt_of_cell? _ _ x3)).trans x3⟩
  clear htx htk h hE hb hi hk hr x3
  have hi0:(0:Int)≤(i:Int):=by omega
  have hil':(i:Int)<(l.length:Int):=by omega
  generalize l.length=n at *
  go_enter Tryz.func104,Tryz.ntmps104
  go_wp2_with fail
  refine q_region (fun W=>Below w.heap.size w W) (by kernel_rfl) (by kernel_rfl) (Below.refl _ _).drew ?_
  repeat (first
    | (refine q_take (v:= ?_) ?_ ?_ ?_
       rotate_left
       · (go_simp;done)
       · intro W hW
         obtain ⟨z0,z1,z2⟩:=C0.out W hW
         go_simp
         first
         | with_reducible rfl
         | (go_at_call 58;with_reducible refine (HCM.out W hW).mono ?_;rintro e u ⟨rfl,hb⟩;refine ⟨?_,hW.trans (hb.mono hW.size)⟩;with_reducible rfl)
       simp only[Act.put,List.setIfInBounds_toArray,List.set_cons_zero,List.set_cons_succ]))
  refine q_nil ?_
  intro w2 hw2
  have HB2:=Lib.hid hw2
  clear hw2
  go_wp2
  go_ret
  exact ⟨rfl,HB2.out⟩
theorem sortFind_at {S bi ba:Nat} {d x:Int} {l:Arx.L} {k u:Value} (w:World) (hE:Env w) (h:AV S w d l k u) (hx:Sm x) (hb:ABox ba (TI d) k u w) (hi:w.cell? ⟨bi,0,none⟩=some (.string (TI x))):
    Calls Tryz.prog 103 #[.int .i64 l.length,.func (.func 104) #[] #[.pointer (some ⟨bi,0,none⟩),.pointer (some ⟨ba,0,none⟩)]] w fun e w'=>e=.returned (.tuple #[.int .i64 (Arx.ixA l x),.bool (Arx.isA l x)])∧Below w.heap.size w w':=by
  have hln:=h.ln
  have HF:=Lib.hid fun (W:World) (hW:Below w.heap.size w W) (i:Nat) (hil:i<l.length) (r:Int) (hr:cI x l[i].1=r)=>find1_at W (hE.far hW) (h.far hW) hx ((hW.block _ (lt_of_heap hb)).trans hb) ((hW.cell (World.block_lt_of_cell? _ _ hi)).trans hi) hil hr
  have HIX:=Lib.hid fun (i:Nat) (hil:i<l.length)=>Arx.ix_lt h.vd (k:=x) hil
  have HLE:=Lib.hid (Arx.ixA_le l x)
  have HAT:=Lib.hid (@Arx.isA_at l x)
  have HEN:=Lib.hid (@Arx.isA_end l x)
  clear hb hi hE h
  obtain ⟨n,hn⟩:∃n,l.length=n:=⟨_,rfl⟩
  have HN:=Lib.hid hn
  rw[hn] at hln ⊢
  clear hn
  go_enter Tryz.func103,Tryz.ntmps103
  go_wp2_with fail
  go_loopw [4,6] (fun vi vj wr=>∃i j:Nat,vi=.int .i64 i∧vj=.int .i64 j∧i≤Arx.ixA l x∧Arx.ixA l x≤j∧j≤n∧Below w.heap.size w wr) (fun vi vj _=>(intOf vj-intOf vi).toNat)
  case atStart=>exact ⟨0,n,rfl,rfl,Nat.zero_le _,by have:=HLE.out;rw[HN.out] at this;exact this,Nat.le_refl _,Below.refl _ _⟩
  case round=>
    obtain ⟨i,j,rfl,rfl,h1,h2,h3,hb⟩:=hrel
    have HB:=Lib.hid hb
    have H1:=Lib.hid h1
    have H2:=Lib.hid h2
    clear hb h1 h2
    by_cases hij:i<j
    · have hij':(i:Int)<(j:Int):=by omega
      go_wp2_with fail
      obtain ⟨m,hm⟩:∃m:Nat,((i:Int)+(j:Int)) / 2=(m:Int):=⟨(i+j) / 2,by omega⟩
      rw[hm]
      have hml:m<l.length:=by rw[HN.out];omega
      have him:i≤m:=by omega
      have hmj:m<j:=by omega
      have hix:=HIX.out m hml
      clear hm
      by_cases hlt:l[m].1<x
      · have hr:cI x l[m].1=1:=by unfold cI;rw[if_neg (by omega),if_pos hlt]
        have H3:Hid (m+1≤Arx.ixA l x):=Lib.hid (hix.1 hlt)
        refine (HF.out wr HB.out m hml 1 hr).mono ?_
        rintro e w2 ⟨rfl,hb⟩
        have HB2:=Lib.hid (HB.out.trans (hb.mono HB.out.size))
        clear hb hr hix hlt hml
        go_wp2_with fail
        go_round
        case rel=>exact ⟨m+1,j,by go_num,rfl,H3.out,H2.out,h3,HB2.out⟩
        case measure=>simp[intOf];omega
      · obtain ⟨r,hr,hr0⟩:∃r,cI x l[m].1=r∧¬(0:Int)<r:=⟨_,rfl,by unfold cI;split <;> (try split) <;> omega⟩
        have H3:Hid (Arx.ixA l x≤m):=Lib.hid (by have:¬m<Arx.ixA l x:=fun h=>hlt (hix.2 h);omega)
        refine (HF.out wr HB.out m hml r hr).mono ?_
        rintro e w2 ⟨rfl,hb⟩
        have HB2:=Lib.hid (HB.out.trans (hb.mono HB.out.size))
        clear hb hr hix hlt hml
        go_wp2_with fail
        go_round
        case rel=>exact ⟨i,m,rfl,rfl,H1.out,H3.out,by omega,HB2.out⟩
        case measure=>simp[intOf];omega
    · have hij':¬(i:Int)<(j:Int):=by omega
      have hie:i=Arx.ixA l x:=by have:=H1.out;have:=H2.out;omega
      have HIE:=Lib.hid hie
      clear hie
      by_cases hin:i<n
      · have hin':(i:Int)<(n:Int):=by omega
        have hil:i<l.length:=by rw[HN.out];exact hin
        obtain ⟨r,hr⟩:∃r,cI x l[i].1=r:=⟨_,rfl⟩
        have hat:=HAT.out (by rw[←HIE.out];exact hil)
        have hcall:=HF.out wr HB.out i hil r hr
        have HR:Hid (decide (r=0)=Arx.isA l x):=Lib.hid (by
          rw[hat]
          have e:l[Arx.ixA l x]'(by rw[←HIE.out];exact hil)=l[i]:=by congr 1;exact HIE.out.symm
          rw[e,←hr]
          unfold cI
          by_cases h0:x<l[i].1
          · rw[if_pos h0];simp;omega
          · rw[if_neg h0]
            split
            · simp;omega
            · have:l[i].1=x:=by omega
              simp[this])
        clear hr hat hil
        go_wp2_with fail
        refine hcall.mono ?_
        rintro e w2 ⟨rfl,hb⟩
        have HB2:=Lib.hid (HB.out.trans (hb.mono HB.out.size))
        clear hb hcall
        go_wp2
        go_ret2
        exact ⟨by rw[←HR.out,←HIE.out];by_cases h:r=0 <;> simp[h],HB2.out⟩
      · have hin':¬(i:Int)<(n:Int):=by omega
        have hen:=HEN.out (by rw[←HIE.out,HN.out];exact hin)
        have HEN2:=Lib.hid hen
        clear hen
        go_wp2
        go_ret2
        exact ⟨by rw[HEN2.out,←HIE.out];rfl,HB.out⟩
theorem find_at {S:Nat} {d x:Int} {l:Arx.L} {k u:Value} (w:World) (hE:Env w) (h:AV S w d l k u) (hx:Sm x):
    Calls Tryz.prog 68 #[valV 4 false (TI d) k u,.string (TI x)] w fun e w'=>e=.returned (.tuple #[.int .i64 (Arx.ixA l x),.bool (Arx.isA l x)])∧Below w.heap.size w w':=by
  have hA:=alloc_far' w (.cells #[.int .i64 4,.bool false,.string (TI d),k,u] 24)
  have hA2:=alloc_far' (w.alloc (.cells #[.int .i64 4,.bool false,.string (TI d),k,u] 24)) (.cells #[.string (TI x)] 9)
  have b1:=(hA2.block _ (lt_of_heap (heap_alloc_new w (.cells #[.int .i64 4,.bool false,.string (TI d),k,u] 24)))).trans (heap_alloc_new w (.cells #[.int .i64 4,.bool false,.string (TI d),k,u] 24))
  have b2:=heap_alloc_new (w.alloc (.cells #[.int .i64 4,.bool false,.string (TI d),k,u] 24)) (.cells #[.string (TI x)] 9)
  rw[show (w.alloc (.cells #[.int .i64 4,.bool false,.string (TI d),k,u] 24)).heap.size=w.heap.size+1 by simp] at b2
  have hB:=hA.trans (hA2.mono hA.size)
  have hs:=sortFind_at (bi:=w.heap.size+1) (ba:=w.heap.size) _ (hE.far hB) (h.far hB) hx b1 (heap_cell b2 0)
  have HB:=Lib.hid hB
  have x3:=heap_cell b1 3
  obtain ⟨a,c,a',c',rfl,rfl⟩:=h.form
  unfold valV
  generalize TI d=td at *
  generalize TI x=tx at *
  clear hA hA2 b1 b2 hB h hE
  generalize Arx.isA l x=b at *
  generalize Arx.ixA l x=j at *
  generalize l.length=n at *
  go_enter Tryz.func68,Tryz.ntmps68
  go_wp2_with fail
  refine hs.mono ?_
  rintro e w2 ⟨rfl,hb⟩
  have HB2:=Lib.hid (HB.out.trans (hb.mono HB.out.size))
  clear hb hs x3
  go_wp2
  go_ret2
  exact ⟨rfl,HB2.out⟩
theorem at_av {S:Nat} {d x:Int} {l:Arx.L} {k u:Value} (w:World) (hE:Env w) (h:AV S w d l k u) (hx:Sm x):
    Calls Tryz.prog 45 #[valV 4 false (TI d) k u,.string (TI x)] w fun e w'=>e=.returned (.string (TI (Arx.atA d l x)))∧Below w.heap.size w w':=by
  have hA:=alloc_far' w (.cells #[.int .i64 4,.bool false,.string (TI d),k,u] 24)
  have b1:=heap_alloc_new w (.cells #[.int .i64 4,.bool false,.string (TI d),k,u] 24)
  have hs:=find_at _ (hE.far hA) (h.far hA) hx
  have HB:=Lib.hid hA
  have HX:=Lib.hid b1
  have HAT:=Lib.hid (Arx.at_place h.vd x)
  have HH:=Lib.hid h
  have HLT:=Lib.hid (@Arx.isA_lt l x)
  obtain ⟨a,c,a',c',rfl,rfl⟩:=h.form
  unfold valV at hs ⊢
  obtain ⟨td,htd⟩:∃t,TI d=t:=⟨_,rfl⟩
  rw[htd] at hs HB HX
  rw[htd]
  have HTD:=Lib.hid htd
  generalize TI x=tx at *
  clear hA b1 h hE htd
  cases hb:Arx.isA l x with
  | true=>
    rw[hb] at hs HAT HLT
    have hlt:=HLT.out rfl
    obtain ⟨j,hj⟩:∃j,Arx.ixA l x=j:=⟨_,rfl⟩
    rw[hj] at hs HAT hlt
    have HAT2:Hid (Arx.atA d l x=l[j].2):=Lib.hid (by rw[HAT.out,if_pos rfl,List.getD_eq_getElem?_getD,List.getElem?_eq_getElem hlt];rfl)
    obtain ⟨g,cc,g',cc',e1,e2,-,hu⟩:=HH.out.cell hlt
    injection e2 with e2 _ e2c
    subst e2 e2c
    have HU:=Lib.hid hu
    have HHL:Hid (g'<w.heap.size):=Lib.hid (World.block_lt_of_cell? _ _ hu)
    have hj0:(0:Int)≤(j:Int):=by omega
    have hjl:(j:Int)<(l.length:Int):=by omega
    clear e1 hu hb HAT HLT hj HH
    obtain ⟨n,hn⟩:∃n,l.length=n:=⟨_,rfl⟩
    rw[hn] at hs hjl HB HX
    rw[hn]
    clear hn
    go_enter Tryz.func45,Tryz.ntmps45
    go_wp2_with fail
    refine hs.mono ?_
    rintro e w2 ⟨rfl,hb⟩
    have hX2:=(hb.block _ (lt_of_heap HX.out)).trans HX.out
    have x4:=heap_cell hX2 4
    have HB2:=Lib.hid (HB.out.trans (hb.mono HB.out.size))
    have hu:=(HB2.out.cell (p:=⟨g',j,none⟩) HHL.out).trans HU.out
    obtain ⟨tv,htv⟩:∃t,TI l[j].2=t:=⟨_,rfl⟩
    rw[htv] at hu
    have HTV:=Lib.hid htv
    clear hb hs hX2 htv
    go_wp2
    go_ret
    exact ⟨by rw[HAT2.out,HTV.out];rfl,HB2.out⟩
  | false=>
    rw[hb] at hs HAT HLT
    have HAT2:Hid (Arx.atA d l x=d):=Lib.hid (by rw[HAT.out,if_neg Bool.false_ne_true])
    clear HAT HLT hb HH
    generalize Arx.ixA l x=j at *
    generalize l.length=n at *
    go_enter Tryz.func45,Tryz.ntmps45
    go_wp2_with fail
    refine hs.mono ?_
    rintro e w2 ⟨rfl,hb⟩
    have hX2:=(hb.block _ (lt_of_heap HX.out)).trans HX.out
    have x2:=heap_cell hX2 2
    have HB2:=Lib.hid (HB.out.trans (hb.mono HB.out.size))
    clear hb hs hX2
    go_wp2
    go_ret
    exact ⟨by rw[HAT2.out,HTD.out];rfl,HB2.out⟩
theorem atV {S:Nat} {d x:Int} {l:Arx.L} {k u:Value} (w:World) (hE:Env w) (h:AV S w d l k u) (hx:Sm x):
    Calls Tryz.prog 20 #[valV 4 false (TI d) k u,.string (TI x)] w fun e w'=>e=.returned (.string (TI (Arx.atA d l x)))∧Below w.heap.size w w':=by
  have hA:=alloc_far' w (.cells #[.int .i64 4,.bool false,.string (TI d),k,u] 24)
  have b1:=heap_alloc_new w (.cells #[.int .i64 4,.bool false,.string (TI d),k,u] 24)
  have hv:=valid_av _ (hE.far hA) (h.far hA)
  have HII:=Lib.hid fun W (hW:Below w.heap.size w W)=>numIsIntI hx W (hE.far hW)
  have HAT:=Lib.hid fun W (hW:Below w.heap.size w W)=>at_av W (hE.far hW) (h.far hW) hx
  have HB:=Lib.hid hA
  have HX:=Lib.hid b1
  obtain ⟨a,c,a',c',rfl,rfl⟩:=h.form
  unfold valV at hv HAT ⊢
  generalize TI d=td at *
  generalize TI x=tx at *
  clear hA b1 h hE
  generalize l.length=n at *
  go_enter Tryz.func20,Tryz.ntmps20
  go_wp2_with fail
  refine hv.mono ?_
  rintro e w2 ⟨rfl,hb⟩
  have HX2:=Lib.hid ((hb.block _ (lt_of_heap HX.out)).trans HX.out)
  have HB2:=Lib.hid (HB.out.trans (hb.mono HB.out.size))
  clear hb hv HX HB
  go_wp2_with fail
  refine (HII.out _ HB2.out).mono ?_
  rintro e w3 ⟨rfl,hb⟩
  have hX3:=(hb.block _ (lt_of_heap HX2.out)).trans HX2.out
  have x0:=heap_cell hX3 0
  have x1:=heap_cell hX3 1
  have x2:=heap_cell hX3 2
  have x3:=heap_cell hX3 3
  have x4:=heap_cell hX3 4
  have HB3:=Lib.hid (HB2.out.trans (hb.mono HB2.out.size))
  clear hb hX3 HX2 HB2
  go_wp2_with fail
  refine (HAT.out _ HB3.out).mono ?_
  rintro e w4 ⟨rfl,hb⟩
  have HB4:=Lib.hid (HB3.out.trans (hb.mono HB3.out.size))
  clear hb x0 x1 x2 x3 x4
  go_wp2
  go_ret
  exact ⟨rfl,HB4.out⟩
end
end Go.Proofs.YtpkfnnkbfphfbaaGreatDoor.Se

/- The place of a key: sort.Find at the keys of an array. -/
import Derived.Test.YtpkfnnkbfphfbaaGreatDoorGEC
import Derived.Test.YtpkfnnkbfphfbaaGreatDoorProg
import Derived.Shelf.Spec.SlicesInsert
import Derived.Shelf.Spec.SlicesInsertGrow
import Derived.Test.YtpkfnnkbfphfbaaGreatDoorGEB
import Derived.Test.YtpkfnnkbfphfbaaGreatDoorGShelf
set_option maxRecDepth 100000
set_option maxHeartbeats 40000000
namespace Go.Proofs.YtpkfnnkbfphfbaaGreatDoor.Se
open Go.RowKit Nmx

section
theorem find1_at {bi ba:Nat} {d x:Int} {l:Arx.L} {k u:Value} {i:Nat} (w:World) (hE:Env w) (h:AR w d l k u) (hx:Sm x) (hb:ABox ba (TI d) k u w) (hi:w.cell? ⟨bi,0,none⟩=some (.string (TI x))) (hil:i<l.length) {r:Int} (hr:cI x l[i].1=r):
    Calls Tryz.prog 104 #[.int .i64 i,.pointer (some ⟨bi,0,none⟩),.pointer (some ⟨ba,0,none⟩)] w fun e w'=>e=.returned (.int .i64 r)∧Below w.heap.size w w':=by
  obtain ⟨g,o,c,g',o',c',rfl,rfl,hk,-⟩:=h.cell hil
  have HCM:=Lib.hid fun W (hW:Below w.heap.size w W)=>numCmpI hx (h.sl _ (List.getElem_mem hil)).1 W (hE.far hW) hr
  obtain ⟨tx,htx⟩:∃t,TI x=t:=⟨_,rfl⟩
  obtain ⟨tk,htk⟩:∃t,TI l[i].1=t:=⟨_,rfl⟩
  rw[htx] at hi HCM
  rw[htk] at hk HCM
  have x3:=heap_cell hb 3
  have C0:Hid (∀W,Below w.heap.size w W→W.cell? ⟨bi,0,none⟩=some (.string tx)∧W.cell? ⟨g,o+i,none⟩=some (.string tk)∧W.cell? ⟨ba,3,none⟩=some (.slice (some ⟨g,o,none⟩) l.length c)):=Lib.hid fun W hW=>⟨(hW.cell (World.block_lt_of_cell? _ _ hi)).trans hi,(hW.cell (World.block_lt_of_cell? _ _ hk)).trans hk,(hW.cell (World.block_lt_of_cell? _ _ x3)).trans x3⟩
  clear htx htk h hE hb hi hk hr x3
  have hi0:(0:Int)≤(i:Int):=by omega
  have hil':(i:Int)<(l.length:Int):=by omega
  generalize l.length=n at *
  go_enter Tryz.func104,Tryz.ntmps104
  go_wp2_with fail
  refine q_region (fun W=>Below w.heap.size w W) (by kernel_rfl) (by kernel_rfl) (Below.refl _ _).drew ?_
  repeat (first
    | (refine q_take (v:= ?_) ?_ ?_ ?_
       rotate_left
       · (go_simp;done)
       · intro W hW
         obtain ⟨z0,z1,z2⟩:=C0.out W hW
         go_simp
         first
         | with_reducible rfl
         | (go_at_call 58;with_reducible refine (HCM.out W hW).mono ?_;rintro e u ⟨rfl,hb⟩;refine ⟨?_,hW.trans (hb.mono hW.size)⟩;with_reducible rfl)
       simp only[Act.put,List.setIfInBounds_toArray,List.set_cons_zero,List.set_cons_succ]))
  refine q_nil ?_
  intro w2 hw2
  have HB2:=Lib.hid hw2
  clear hw2
  go_wp2
  go_ret
  exact ⟨rfl,HB2.out⟩
theorem sortFind_at {bi ba:Nat} {d x:Int} {l:Arx.L} {k u:Value} (w:World) (hE:Env w) (h:AR w d l k u) (hx:Sm x) (hb:ABox ba (TI d) k u w) (hi:w.cell? ⟨bi,0,none⟩=some (.string (TI x))):
    Calls Tryz.prog 103 #[.int .i64 l.length,.func (.func 104) #[] #[.pointer (some ⟨bi,0,none⟩),.pointer (some ⟨ba,0,none⟩)]] w fun e w'=>e=.returned (.tuple #[.int .i64 (Arx.ixA l x),.bool (Arx.isA l x)])∧Below w.heap.size w w':=by
  have hln:=h.ln
  have HF:=Lib.hid fun (W:World) (hW:Below w.heap.size w W) (i:Nat) (hil:i<l.length) (r:Int) (hr:cI x l[i].1=r)=>find1_at W (hE.far hW) (h.far hW) hx ((hW.block _ (lt_of_heap hb)).trans hb) ((hW.cell (World.block_lt_of_cell? _ _ hi)).trans hi) hil hr
  have HIX:=Lib.hid fun (i:Nat) (hil:i<l.length)=>Arx.ix_lt h.vd (k:=x) hil
  have HLE:=Lib.hid (Arx.ixA_le l x)
  have HAT:=Lib.hid (@Arx.isA_at l x)
  have HEN:=Lib.hid (@Arx.isA_end l x)
  clear hb hi hE h
  obtain ⟨n,hn⟩:∃n,l.length=n:=⟨_,rfl⟩
  have HN:=Lib.hid hn
  rw[hn] at hln ⊢
  clear hn
  go_enter Tryz.func103,Tryz.ntmps103
  go_wp2_with fail
  go_loopw [4,6] (fun vi vj wr=>∃i j:Nat,vi=.int .i64 i∧vj=.int .i64 j∧i≤Arx.ixA l x∧Arx.ixA l x≤j∧j≤n∧Below w.heap.size w wr) (fun vi vj _=>(intOf vj-intOf vi).toNat)
  case atStart=>exact ⟨0,n,rfl,rfl,Nat.zero_le _,by have:=HLE.out;rw[HN.out] at this;exact this,Nat.le_refl _,Below.refl _ _⟩
  case round=>
    obtain ⟨i,j,rfl,rfl,h1,h2,h3,hb⟩:=hrel
    have HB:=Lib.hid hb
    have H1:=Lib.hid h1
    have H2:=Lib.hid h2
    clear hb h1 h2
    by_cases hij:i<j
    · have hij':(i:Int)<(j:Int):=by omega
      go_wp2_with fail
      obtain ⟨m,hm⟩:∃m:Nat,((i:Int)+(j:Int)) / 2=(m:Int):=⟨(i+j) / 2,by omega⟩
      rw[hm]
      have hml:m<l.length:=by rw[HN.out];omega
      have him:i≤m:=by omega
      have hmj:m<j:=by omega
      have hix:=HIX.out m hml
      clear hm
      by_cases hlt:l[m].1<x
      · have hr:cI x l[m].1=1:=by unfold cI;rw[if_neg (by omega),if_pos hlt]
        have H3:Hid (m+1≤Arx.ixA l x):=Lib.hid (hix.1 hlt)
        refine (HF.out wr HB.out m hml 1 hr).mono ?_
        rintro e w2 ⟨rfl,hb⟩
        have HB2:=Lib.hid (HB.out.trans (hb.mono HB.out.size))
        clear hb hr hix hlt hml
        go_wp2_with fail
        go_round
        case rel=>exact ⟨m+1,j,by go_num,rfl,H3.out,H2.out,h3,HB2.out⟩
        case measure=>simp[intOf];omega
      · obtain ⟨r,hr,hr0⟩:∃r,cI x l[m].1=r∧¬(0:Int)<r:=⟨_,rfl,by unfold cI;split <;> (try split) <;> omega⟩
        have H3:Hid (Arx.ixA l x≤m):=Lib.hid (by have:¬m<Arx.ixA l x:=fun h=>hlt (hix.2 h);omega)
        refine (HF.out wr HB.out m hml r hr).mono ?_
        rintro e w2 ⟨rfl,hb⟩
        have HB2:=Lib.hid (HB.out.trans (hb.mono HB.out.size))
        clear hb hr hix hlt hml
        go_wp2_with fail
        go_round
        case rel=>exact ⟨i,m,rfl,rfl,H1.out,H3.out,by omega,HB2.out⟩
        case measure=>simp[intOf];omega
    · have hij':¬(i:Int)<(j:Int):=by omega
      have hie:i=Arx.ixA l x:=by have:=H1.out;have:=H2.out;omega
      have HIE:=Lib.hid hie
      clear hie
      by_cases hin:i<n
      · have hin':(i:Int)<(n:Int):=by omega
        have hil:i<l.length:=by rw[HN.out];exact hin
        obtain ⟨r,hr⟩:∃r,cI x l[i].1=r:=⟨_,rfl⟩
        have hat:=HAT.out (by rw[←HIE.out];exact hil)
        have hcall:=HF.out wr HB.out i hil r hr
        have HR:Hid (decide (r=0)=Arx.isA l x):=Lib.hid (by
          rw[hat]
          have e:l[Arx.ixA l x]'(by rw[←HIE.out];exact hil)=l[i]:=by congr 1;exact HIE.out.symm
          rw[e,←hr]
          unfold cI
          by_cases h0:x<l[i].1
          · rw[if_pos h0];simp;omega
          · rw[if_neg h0]
            split
            · simp;omega
            · have:l[i].1=x:=by omega
              simp[this])
        clear hr hat hil
        go_wp2_with fail
        refine hcall.mono ?_
        rintro e w2 ⟨rfl,hb⟩
        have HB2:=Lib.hid (HB.out.trans (hb.mono HB.out.size))
        clear hb hcall
        go_wp2
        go_ret2
        exact ⟨by rw[←HR.out,←HIE.out];by_cases h:r=0 <;> simp[h],HB2.out⟩
      · have hin':¬(i:Int)<(n:Int):=by omega
        have hen:=HEN.out (by rw[←HIE.out,HN.out];exact hin)
        have HEN2:=Lib.hid hen
        clear hen
        go_wp2
        go_ret2
        exact ⟨by rw[HEN2.out,←HIE.out];rfl,HB.out⟩
theorem find_at {d x:Int} {l:Arx.L} {k u:Value} (w:World) (hE:Env w) (h:AR w d l k u) (hx:Sm x):
    Calls Tryz.prog 68 #[valV 4 false (TI d) k u,.string (TI x)] w fun e w'=>e=.returned (.tuple #[.int .i64 (Arx.ixA l x),.bool (Arx.isA l x)])∧Below w.heap.size w w':=by
  have hA:=alloc_far' w (.cells #[.int .i64 4,.bool false,.string (TI d),k,u] 24)
  have hA2:=alloc_far' (w.alloc (.cells #[.int .i64 4,.bool false,.string (TI d),k,u] 24)) (.cells #[.string (TI x)] 9)
  have b1:=(hA2.block _ (lt_of_heap (heap_alloc_new w (.cells #[.int .i64 4,.bool false,.string (TI d),k,u] 24)))).trans (heap_alloc_new w (.cells #[.int .i64 4,.bool false,.string (TI d),k,u] 24))
  have b2:=heap_alloc_new (w.alloc (.cells #[.int .i64 4,.bool false,.string (TI d),k,u] 24)) (.cells #[.string (TI x)] 9)
  rw[show (w.alloc (.cells #[.int .i64 4,.bool false,.string (TI d),k,u] 24)).heap.size=w.heap.size+1 by simp] at b2
  have hB:=hA.trans (hA2.mono hA.size)
  have hs:=sortFind_at (bi:=w.heap.size+1) (ba:=w.heap.size) _ (hE.far hB) (h.far hB) hx b1 (heap_cell b2 0)
  have HB:=Lib.hid hB
  have x3:=heap_cell b1 3
  obtain ⟨a,c,a',c',rfl,rfl⟩:=h.form
  unfold valV
  generalize TI d=td at *
  generalize TI x=tx at *
  clear hA hA2 b1 b2 hB h hE
  generalize Arx.isA l x=b at *
  generalize Arx.ixA l x=j at *
  generalize l.length=n at *
  go_enter Tryz.func68,Tryz.ntmps68
  go_wp2_with fail
  refine hs.mono ?_
  rintro e w2 ⟨rfl,hb⟩
  have HB2:=Lib.hid (HB.out.trans (hb.mono HB.out.size))
  clear hb hs x3
  go_wp2
  go_ret2
  exact ⟨rfl,HB2.out⟩
theorem at_av {d x:Int} {l:Arx.L} {k u:Value} (w:World) (hE:Env w) (h:AR w d l k u) (hx:Sm x):
    Calls Tryz.prog 45 #[valV 4 false (TI d) k u,.string (TI x)] w fun e w'=>e=.returned (.string (TI (Arx.atA d l x)))∧Below w.heap.size w w':=by
  have hA:=alloc_far' w (.cells #[.int .i64 4,.bool false,.string (TI d),k,u] 24)
  have b1:=heap_alloc_new w (.cells #[.int .i64 4,.bool false,.string (TI d),k,u] 24)
  have hs:=find_at _ (hE.far hA) (h.far hA) hx
  have HB:=Lib.hid hA
  have HX:=Lib.hid b1
  have HAT:=Lib.hid (Arx.at_place h.vd x)
  have HH:=Lib.hid h
  have HLT:=Lib.hid (@Arx.isA_lt l x)
  obtain ⟨a,c,a',c',rfl,rfl⟩:=h.form
  unfold valV at hs ⊢
  obtain ⟨td,htd⟩:∃t,TI d=t:=⟨_,rfl⟩
  rw[htd] at hs HB HX
  rw[htd]
  have HTD:=Lib.hid htd
  generalize TI x=tx at *
  clear hA b1 h hE htd
  cases hb:Arx.isA l x with
  | true=>
    rw[hb] at hs HAT HLT
    have hlt:=HLT.out rfl
    obtain ⟨j,hj⟩:∃j,Arx.ixA l x=j:=⟨_,rfl⟩
    rw[hj] at hs HAT hlt
    have HAT2:Hid (Arx.atA d l x=l[j].2):=Lib.hid (by rw[HAT.out,if_pos rfl,List.getD_eq_getElem?_getD,List.getElem?_eq_getElem hlt];rfl)
    obtain ⟨g,o,cc,g',o',cc',e1,e2,-,hu⟩:=HH.out.cell hlt
    injection e2 with e2 _ e2c
    subst e2 e2c
    have HU:=Lib.hid hu
    have HHL:Hid (g'<w.heap.size):=Lib.hid (World.block_lt_of_cell? _ _ hu)
    have hj0:(0:Int)≤(j:Int):=by omega
    have hjl:(j:Int)<(l.length:Int):=by omega
    clear e1 hu hb HAT HLT hj HH
    obtain ⟨n,hn⟩:∃n,l.length=n:=⟨_,rfl⟩
    rw[hn] at hs hjl HB HX
    rw[hn]
    clear hn
    go_enter Tryz.func45,Tryz.ntmps45
    go_wp2_with fail
    refine hs.mono ?_
    rintro e w2 ⟨rfl,hb⟩
    have hX2:=(hb.block _ (lt_of_heap HX.out)).trans HX.out
    have x4:=heap_cell hX2 4
    have HB2:=Lib.hid (HB.out.trans (hb.mono HB.out.size))
    have hu:=(HB2.out.cell (p:=⟨g',o'+j,none⟩) HHL.out).trans HU.out
    obtain ⟨tv,htv⟩:∃t,TI l[j].2=t:=⟨_,rfl⟩
    rw[htv] at hu
    have HTV:=Lib.hid htv
    clear hb hs hX2 htv
    go_wp2
    go_ret
    exact ⟨by rw[HAT2.out,HTV.out];rfl,HB2.out⟩
  | false=>
    rw[hb] at hs HAT HLT
    have HAT2:Hid (Arx.atA d l x=d):=Lib.hid (by rw[HAT.out,if_neg Bool.false_ne_true])
    clear HAT HLT hb HH
    generalize Arx.ixA l x=j at *
    generalize l.length=n at *
    go_enter Tryz.func45,Tryz.ntmps45
    go_wp2_with fail
    refine hs.mono ?_
    rintro e w2 ⟨rfl,hb⟩
    have hX2:=(hb.block _ (lt_of_heap HX.out)).trans HX.out
    have x2:=heap_cell hX2 2
    have HB2:=Lib.hid (HB.out.trans (hb.mono HB.out.size))
    clear hb hs hX2
    go_wp2
    go_ret
    exact ⟨by rw[HAT2.out,HTD.out];rfl,HB2.out⟩
theorem atV {d x:Int} {l:Arx.L} {k u:Value} (w:World) (hE:Env w) (h:AR w d l k u) (hx:Sm x):
    Calls Tryz.prog 20 #[valV 4 false (TI d) k u,.string (TI x)] w fun e w'=>e=.returned (.string (TI (Arx.atA d l x)))∧Below w.heap.size w w':=by
  have hA:=alloc_far' w (.cells #[.int .i64 4,.bool false,.string (TI d),k,u] 24)
  have b1:=heap_alloc_new w (.cells #[.int .i64 4,.bool false,.string (TI d),k,u] 24)
  have hv:=valid_av _ (hE.far hA) (h.far hA)
  have HII:=Lib.hid fun W (hW:Below w.heap.size w W)=>numIsIntI hx W (hE.far hW)
  have HAT:=Lib.hid fun W (hW:Below w.heap.size w W)=>at_av W (hE.far hW) (h.far hW) hx
  have HB:=Lib.hid hA
  have HX:=Lib.hid b1
  obtain ⟨a,c,a',c',rfl,rfl⟩:=h.form
  unfold valV at hv HAT ⊢
  generalize TI d=td at *
  generalize TI x=tx at *
  clear hA b1 h hE
  generalize l.length=n at *
  go_enter Tryz.func20,Tryz.ntmps20
  go_wp2_with fail
  refine hv.mono ?_
  rintro e w2 ⟨rfl,hb⟩
  have HX2:=Lib.hid ((hb.block _ (lt_of_heap HX.out)).trans HX.out)
  have HB2:=Lib.hid (HB.out.trans (hb.mono HB.out.size))
  clear hb hv HX HB
  go_wp2_with fail
  refine (HII.out _ HB2.out).mono ?_
  rintro e w3 ⟨rfl,hb⟩
  have hX3:=(hb.block _ (lt_of_heap HX2.out)).trans HX2.out
  have x0:=heap_cell hX3 0
  have x1:=heap_cell hX3 1
  have x2:=heap_cell hX3 2
  have x3:=heap_cell hX3 3
  have x4:=heap_cell hX3 4
  have HB3:=Lib.hid (HB2.out.trans (hb.mono HB2.out.size))
  clear hb hX3 HX2 HB2
  go_wp2_with fail
  refine (HAT.out _ HB3.out).mono ?_
  rintro e w4 ⟨rfl,hb⟩
  have HB4:=Lib.hid (HB3.out.trans (hb.mono HB3.out.size))
  clear hb x0 x1 x2 x3 x4
  go_wp2
  go_ret
  exact ⟨rfl,HB4.out⟩
end
end Go.Proofs.YtpkfnnkbfphfbaaGreatDoor.Se
/- slices.Insert at rows of strings: the library's contracts at this program (laid by hand: the layer passes it over). -/
namespace Go.Proofs.YtpkfnnkbfphfbaaGreatDoor.Se
open Go.RowKit

def insRen:Go.Shelf.Ren:=⟨fun | 22=>70 | 17=>190 | 29=>105 | 30=>106 | 36=>148 | n=>n,fun | 24=>22 | 9=>9 | 3=>3 | 4=>4 | 0=>0 | n=>n,fun | n=>n⟩
theorem laysIns:Go.Proofs.Lays2.n22 Tryz.prog insRen:={
  mixed:=by kernel_rfl
  f17:=Tryz.func190.trans (congrArg some (by kernel_rfl))
  f22:=Tryz.func70.trans (congrArg some (by kernel_rfl))
  f29:=Tryz.func105.trans (congrArg some (by kernel_rfl))
  f30:=Tryz.func106.trans (congrArg some (by kernel_rfl))
  f36:=Tryz.func148.trans (congrArg some (by kernel_rfl))
  t0:=Tryz.underlying0
  a0:=Tryz.isAgg0
  z0:=Tryz.sizeOf0
  v0:=Tryz.zeroValue0
  t3:=Tryz.underlying3
  a3:=Tryz.isAgg3
  z3:=Tryz.sizeOf3
  v3:=Tryz.zeroValue3
  t4:=Tryz.underlying4
  a4:=Tryz.isAgg4
  z4:=Tryz.sizeOf4
  v4:=Tryz.zeroValue4
  t9:=Tryz.underlying9
  a9:=Tryz.isAgg9
  z9:=Tryz.sizeOf9
  v9:=Tryz.zeroValue9
  t24:=Tryz.underlying22
  a24:=Tryz.isAgg22
  z24:=Tryz.sizeOf22
  v24:=Tryz.zeroValue22
  i9:=by kernel_rfl }
end Go.Proofs.YtpkfnnkbfphfbaaGreatDoor.Se
/- Rows of strings that are a call's own: slices.Clone, slices.Insert, slices.Delete, a store at an index. -/
namespace Go.Proofs.YtpkfnnkbfphfbaaGreatDoor.Se
open Go.RowKit Nmx

def setsA:Array Value→Nat→List Value→Array Value
  | cs,_,[]=>cs
  | cs,o,v::r=>setsA (cs.setIfInBounds o v) (o+1) r
theorem setsA_size:∀(vs:List Value) (cs:Array Value) (o:Nat),(setsA cs o vs).size=cs.size
  | [],_,_=>rfl
  | v::r,cs,o=>by rw[setsA,setsA_size r];simp
theorem setsA_list:∀(vs:List Value) (cs:Array Value) (o:Nat),o+vs.length≤cs.size→(setsA cs o vs).toList=cs.toList.take o++vs++cs.toList.drop (o+vs.length)
  | [],_,_,_=>by simp[setsA]
  | v::r,cs,o,h=>by
    have h':o<cs.toList.length:=by simp at h ⊢;omega
    rw[setsA,setsA_list r _ _ (by simp at h ⊢;omega)]
    simp only[Array.toList_setIfInBounds,List.length_cons]
    rw[List.take_add_one,List.getElem?_set_self h',List.take_set_of_le (Nat.le_refl _),List.drop_set_of_lt (by omega)]
    simp[Nat.add_assoc,Nat.add_comm 1]
theorem heap_sets {g:Nat} {ty:TypeId}:∀(vs:List Value) (o:Nat) {w:World} {cs:Array Value},w.heap[g]? =some (.cells cs ty (0,0))→(w.setCells g o vs).heap[g]? =some (.cells (setsA cs o vs) ty (0,0))
  | [],_,_,_,h=>h
  | v::r,o,_,_,h=>heap_sets r (o+1) (heap_set h o v)
theorem heap_sets_ne {g b:Nat} (hb:b≠g):∀(vs:List Value) (o:Nat) (w:World),(w.setCells g o vs).heap[b]? =w.heap[b]?
  | [],_,_=>rfl
  | _::r,o,_=>(heap_sets_ne hb r (o+1) _).trans (Below.heap_setCell _ _ _ _ hb)
theorem grown_sets {w w1:World} {g:Nat} (vs:List Value) (o:Nat) (h:w.grownBy w1 (some g)):w.grownBy (w1.setCells g o vs) (some g):=by
  induction vs generalizing o w1 with
  | nil=>exact h
  | cons v r ih=>exact ih (o+1) (grown_setCell h o v)
theorem grown_drew {w w1:World} {r:Option Nat} (h:w.grownBy w1 r):w.grownBy w1.drew r:=⟨h.os,h.tape,h.output,h.size,h.block⟩
theorem grown_fresh {w w':World} {q:Nat} {r:Option Nat} (h:w.grownBy w' (some q)) (hq:w.heap.size≤q):w.grownBy w' r:=
  ⟨h.os,h.tape,h.output,h.size,fun k hk _=>h.block k hk (fun e=>by have:=Option.some.inj e;omega)⟩
theorem strs_of (ts:List ByteArray):Lib.strsOf (fun j=>ts.getD j ByteArray.empty) ts.length=ts.map fun x=>x.data.toList:=by
  apply List.ext_getElem (by simp[Lib.strsOf])
  intro i h1 h2
  simp at h2
  simp[Lib.strsOf,h2]
theorem enc_erase (ts:List ByteArray) {i:Nat}:((ts.map fun x:ByteArray=>x.data.toList).take i++(ts.map fun x:ByteArray=>x.data.toList).drop (i+1)++List.replicate (i+1-i) []).map encStr=(ts.eraseIdx i).map Value.string++[.string ⟨#[]⟩]:=by
  rw[show i+1-i=1 by omega,←List.map_take,←List.map_drop,←List.map_append,←List.eraseIdx_eq_take_drop_succ]
  simp[encStr]
theorem one_str {ts:List ByteArray}:∀v∈ts.map Value.string,v.oneCell'=true:=by
  intro v hv;obtain ⟨x,-,rfl⟩:=List.mem_map.1 hv;rfl
section
theorem cloneRow {k:Value} {ts:List ByteArray} (w:World) (h:RRow w k ts) (hl:ts.length≤100000):
    Calls Tryz.prog 67 #[k] w fun e w'=>∃v,e=.returned v∧SRow w.heap.size w' v ts∧Below w.heap.size w w':=by
  by_cases h0:ts.length=0
  · obtain ⟨a,cap,rfl,hn,-⟩:=h.sl
    obtain rfl:=List.eq_nil_of_length_eq_zero h0
    cases a with
    | none=>
      obtain rfl:=hn rfl
      refine (Tryz.slices_Clone_string_nil 0 0 w).mono ?_
      rintro e w' ⟨rfl,rfl⟩
      exact ⟨_,rfl,World.ownsRow_nil _ _ _ _,Below.refl _ _⟩
    | some a=>
      refine (Tryz.slices_Clone_string_zero a cap w).mono ?_
      rintro e w' ⟨v,rfl,ho,-,hb⟩
      exact ⟨v,rfl,ho,hb⟩
  · obtain ⟨g,o,cap,rfl,-⟩:=h.cell (List.getElem?_eq_getElem (show 0<ts.length by omega))
    refine (Tryz.slices_Clone_string g o ts.length cap ts w (Nat.le_refl _) (by omega) (fun j hj=>?_)).mono ?_
    · obtain ⟨g',o',c',e,hc⟩:=h.cell (List.getElem?_eq_getElem hj)
      injection e with e _ _
      injection Option.some.inj e with e e2 _
      subst e e2
      rw[hc,List.getD_eq_getElem?_getD,List.getElem?_eq_getElem hj];rfl
    · rintro e w' ⟨v,rfl,ho,-,hb⟩
      rw[List.take_length] at ho
      exact ⟨v,rfl,ho,hb⟩
theorem SRow.set {S g c n:Nat} {w:World} {ts:List ByteArray} (h:SRow S w (.slice (some ⟨g,0,none⟩) n c) ts) (j:Nat) (t:ByteArray):SRow S (w.setCell ⟨g,j,none⟩ (.string t)) (.slice (some ⟨g,0,none⟩) n c) (ts.set j t):=by
  obtain ⟨hlen,⟨h0,-⟩ | ⟨g',cap,cur,e,hS,hh,hnc,hcm,hcs,htk⟩⟩:=h
  · cases h0
  · injection e with e1 e2 e3
    injection Option.some.inj e1 with e1 _ _
    subst e1 e3
    refine ⟨by simp,.inr ⟨g,c,cur.setIfInBounds j (.string t),by rw[List.length_set,e2],hS,heap_set hh j _,by rw[List.length_set];exact hnc,hcm,by simpa using hcs,?_⟩⟩
    rw[Array.toList_setIfInBounds,List.length_set,List.take_set,htk,List.map_set]
def RowPost (S:Nat) (w:World) (k:Value) (ts:List ByteArray) (e:Ending) (w':World):Prop:=
  ∃v,e=.returned v∧SRow S w' v ts∧w.grownBy w' k.ownBlock∧∀g,v.ownBlock=some g→k.ownBlock=some g∨w.heap.size≤g
theorem deleteRow {S g c i:Nat} {ts:List ByteArray} (w:World) (h:SRow S w (.slice (some ⟨g,0,none⟩) ts.length c) ts) (hi:i<ts.length):
    Calls Tryz.prog 69 #[.slice (some ⟨g,0,none⟩) ts.length c,.int .i64 i,.int .i64 ((i:Int)+1)] w (RowPost S w (.slice (some ⟨g,0,none⟩) ts.length c) (ts.eraseIdx i)):=by
  obtain ⟨hlen,⟨h0,-⟩ | ⟨g',cap,cur,e,hS,hh,hnc,hcm,hcs,htk⟩⟩:=id h
  · cases h0
  · injection e with e1 e2 e3
    injection Option.some.inj e1 with e1 _ _
    subst e1 e3
    have:=Tryz.slices_Delete_string_cells g 0 ts.length c i (i+1) (fun j=>ts.getD j ByteArray.empty) w hnc (by unfold maxLen at hcm;omega) (by omega) (by omega) (fun j hj=>by
      obtain ⟨g',c',e,hc⟩:=h.cell (List.getElem?_eq_getElem hj)
      injection e with e _ _
      injection Option.some.inj e with e _ _
      subst e
      rw[Nat.zero_add,hc];simp[hj]) (fun _ _=>heap_fz hh _)
    rw[Int.natCast_add] at this
    refine this.mono ?_
    rintro e w' ⟨rfl,q,rfl⟩
    rw[strs_of,enc_erase ts,show ts.length-(i+1-i)=(ts.eraseIdx i).length by rw[List.length_eraseIdx_of_lt hi];omega]
    have hh':(w.drewN q).heap[g]? =some (.cells cur 9 (0,0)):=hh
    have hel:(ts.eraseIdx i).length+1=ts.length:=by rw[List.length_eraseIdx_of_lt hi];omega
    refine ⟨_,rfl,⟨by simp,.inr ⟨g,c,_,rfl,hS,heap_sets _ 0 hh',by omega,hcm,by rw[setsA_size];exact hcs,?_⟩⟩,grown_sets _ 0 (grown_drewN (grown_refl w _) q),fun _ h=>.inl h⟩
    rw[setsA_list _ _ _ (by simp;omega)]
    simp
theorem end_take {α:Type} (xs R:List α) (v:α) {n:Nat} (hn:xs.length=n):(xs++v::R).take (n+1)=xs++[v]:=by
  rw[show xs++v::R=(xs++[v])++R by simp]
  exact List.take_left' (by simp[hn])
theorem shift_take {α:Type} (c xs:List α) (v:α) {i n:Nat} (hx:c.take n=xs) (hn:xs.length=n) (hi:i<n) (hc:n+1≤c.length):
    ((c.take (i+1)++xs.drop i++c.drop (i+1+(xs.drop i).length)).take i++[v]++(c.take (i+1)++xs.drop i++c.drop (i+1+(xs.drop i).length)).drop (i+1)).take (n+1)=xs.take i++v::xs.drop i:=by
  have e1:(c.take (i+1)++xs.drop i++c.drop (i+1+(xs.drop i).length)).take i=xs.take i:=by
    rw[List.append_assoc,List.take_append_of_le_length (by simp;omega),List.take_take,Nat.min_eq_left (by omega),←hx,List.take_take,Nat.min_eq_left (by omega)]
  have e2:(c.take (i+1)++xs.drop i++c.drop (i+1+(xs.drop i).length)).drop (i+1)=xs.drop i++c.drop (i+1+(xs.drop i).length):=by
    rw[List.append_assoc]
    exact List.drop_left' (by simp;omega)
  rw[e1,e2,←List.append_assoc]
  rw[List.take_left' (by simp;omega)]
  simp
theorem grow_take {α:Type} (xs Z:List α) (v:α) {i n:Nat} (hn:xs.length=n) (hi:i<n):
    (((xs.take i++Z).take i++[v]++(xs.take i++Z).drop (i+1)).take (i+1)++xs.drop i++((xs.take i++Z).take i++[v]++(xs.take i++Z).drop (i+1)).drop (i+1+(xs.drop i).length)).take (n+1)=xs.take i++v::xs.drop i:=by
  have e1:(xs.take i++Z).take i=xs.take i:=List.take_left' (by simp;omega)
  rw[e1]
  have e2:(xs.take i++[v]++(xs.take i++Z).drop (i+1)).take (i+1)=xs.take i++[v]:=List.take_left' (by simp;omega)
  rw[e2,List.take_left' (by simp;omega)]
  simp
theorem insertRow {S i vb vc:Nat} {k:Value} {ts:List ByteArray} {t:ByteArray} (w:World) (h:SRow S w k ts) (hi:i≤ts.length) (hl:ts.length≤100000) (hS:S≤w.heap.size) (hv:w.heap[vb]? =some (.cells #[.string t] 9 (0,0))) (hne:k.ownBlock≠some vb):
    Calls Tryz.prog 70 #[k,.int .i64 i,.slice (some ⟨vb,0,none⟩) 1 vc] w (RowPost S w k (ts.take i++t::ts.drop i)):=by
  have hvs:∀j v,[Value.string t][j]? =some v→w.cell? ⟨vb,0+j,none⟩=some v:=fun j v hj=>by
    match j,hj with
    | 0,hj=>rw[heap_cell hv];simpa using hj
  have h1v:∀v∈[Value.string t],v.oneCell'=true:=fun v hv=>by rw[List.mem_singleton.1 hv];rfl
  have hmid:(ts.take i++t::ts.drop i).length=ts.length+1:=by simp;omega
  obtain ⟨hlen,⟨rfl,h0⟩ | ⟨g,cap,cur,rfl,hSg,hh,hnc,hcm,hcs,htk⟩⟩:=id h
  · obtain rfl:=List.eq_nil_of_length_eq_zero h0
    obtain rfl:i=0:=by simpa using hi
    have:=Any2.slices_Insert_string_end_grow laysIns none 0 0 vb 0 1 vc [] [.string t] w (by omega) (Nat.le_refl _) (by omega) (by omega) rfl rfl (fun _=>rfl) (fun a ha=>by cases ha) hvs h1v
    refine Calls.mono this ?_
    rintro e w' ⟨rfl,rfl⟩
    refine ⟨_,rfl,⟨by simp,.inr ⟨w.heap.size,_,_,rfl,hS,heap_alloc_new w.drew _,?_,grownCap_le_maxLen _ _ _ _ (by unfold maxLen;omega),?_,?_⟩⟩,⟨rfl,rfl,rfl,by simp,fun k hk _=>heap_alloc_old w.drew _ (show _<w.drew.heap.size from hk)⟩,fun _ h=>.inr (Nat.le_of_eq (Option.some.inj h))⟩
    · exact grownCap_ge _ _ _ _
    · have:=grownCap_ge w (0+1) 0 9
      simp only[Array.size_append,List.size_toArray,size_zeroCells,List.nil_append,List.length_cons,List.length_nil]
      show 0+1+(grownCap w (0+1) 0 9-(0+1))*1=grownCap w (0+1) 0 9*1
      omega
    · simp
  · have hcs':∀j v,(ts.map Value.string)[j]? =some v→w.cell? ⟨g,0+j,none⟩=some v:=fun j v hj=>by
      rw[List.getElem?_map] at hj
      obtain ⟨x,hx,rfl⟩:=Option.map_eq_some_iff.1 hj
      obtain ⟨g',c',e,hc⟩:=h.cell hx
      injection e with e _ _
      injection Option.some.inj e with e _ _
      subst e
      rw[Nat.zero_add,hc]
    have hcl:(ts.map Value.string).length=ts.length:=by simp
    have hgne:g≠vb:=fun e=>hne (by rw[e];rfl)
    have hG:=grownCap_ge w (ts.length+1) cap 9
    by_cases hroom:ts.length+1≤cap
    · have hsp:∀j,j<ts.length+1→(w.cell? ⟨g,0+j,none⟩).isSome=true:=fun j hj=>by
        rw[heap_cell hh,Array.getElem?_eq_getElem (by omega)];rfl
      by_cases hin:i=ts.length
      · subst hin
        have:=Any2.slices_Insert_string_end_room laysIns g 0 ts.length cap vb 0 1 vc [.string t] w (by omega) hroom hcm rfl (fun j hj=>by have:=hsp (ts.length+j) (by omega);rwa [←Nat.add_assoc] at this) (fun _ _=>heap_fz hh _) hvs h1v
        refine Calls.mono this ?_
        rintro e w' ⟨rfl,rfl⟩
        refine ⟨_,rfl,⟨by simp,.inr ⟨g,cap,_,by rw[hmid],hSg,heap_sets _ _ hh,by omega,hcm,by rw[setsA_size];exact hcs,?_⟩⟩,grown_sets _ _ (grown_refl w _),fun _ h=>.inl h⟩
        rw[setsA_list _ _ _ (by simp;omega),hmid,Nat.zero_add]
        rw[Nat.mul_one] at htk ⊢
        rw[htk,List.append_assoc,List.singleton_append,end_take _ _ _ hcl]
        simp
      · have hlt:i<ts.length:=by omega
        have:=Any2.slices_Insert_string_shift laysIns g 0 ts.length cap i vb 0 1 vc (ts.map Value.string) [.string t] w hlt (by omega) hroom hcm (fun e=>hgne e.symm) hcl rfl hcs' hsp (fun _ _=>heap_fz hh _) hvs one_str h1v 9 9 1 cur.size (by unfold World.shape?;rw[hv];rfl) (by unfold World.shape?;rw[hh]) (by omega) (heap_fz hv _) (heap_fz hv _)
        refine Calls.mono this ?_
        rintro e w' ⟨rfl,rfl⟩
        have hh':w.drew.heap[g]? =some (.cells cur 9 (0,0)):=hh
        refine ⟨_,rfl,⟨by simp,.inr ⟨g,cap,_,by rw[hmid],hSg,heap_sets _ _ (heap_sets _ _ hh'),by omega,hcm,by rw[setsA_size,setsA_size];exact hcs,?_⟩⟩,grown_sets _ _ (grown_sets _ _ (grown_drew (grown_refl w _))),fun _ h=>.inl h⟩
        rw[setsA_list _ _ _ (by rw[setsA_size];simp;omega),setsA_list _ _ _ (by simp;omega),hmid]
        rw[Nat.mul_one] at htk ⊢
        simp only[Nat.zero_add]
        have hst:=shift_take cur.toList (ts.map Value.string) (Value.string t) htk hcl hlt (by simp;omega)
        simp only[List.length_singleton]
        rw[hst]
        simp
    · by_cases hin:i=ts.length
      · subst hin
        have:=Any2.slices_Insert_string_end_grow laysIns (some ⟨g,0,none⟩) ts.length cap vb 0 1 vc (ts.map Value.string) [.string t] w (by omega) hnc (by omega) (by omega) hcl rfl (fun h=>by cases h) (fun a ha j v hj=>by cases ha;have:=hcs' j v hj;rw[Addr.add_lit];exact this) hvs h1v
        refine Calls.mono this ?_
        rintro e w' ⟨rfl,rfl⟩
        refine ⟨_,rfl,⟨by simp,.inr ⟨w.heap.size,_,_,by rw[hmid],hS,heap_alloc_new w.drew _,by rw[hmid];exact hG,grownCap_le_maxLen _ _ _ _ (by unfold maxLen;omega),?_,?_⟩⟩,⟨rfl,rfl,rfl,by simp,fun k hk _=>heap_alloc_old w.drew _ (show _<w.drew.heap.size from hk)⟩,fun _ h=>.inr (Nat.le_of_eq (Option.some.inj h))⟩
        · simp only[Array.size_append,List.size_toArray,size_zeroCells,List.length_append,hcl,List.length_singleton]
          show ts.length+1+(grownCap w (ts.length+1) cap 9-(ts.length+1))*1=grownCap w (ts.length+1) cap 9*1
          omega
        · rw[hmid,Nat.mul_one]
          simp only[Array.toList_append]
          rw[List.take_left' (by simp)]
          simp
      · have hlt:i<ts.length:=by omega
        have:=Any2.slices_Insert_string_grow laysIns g 0 ts.length cap i vb 0 1 vc (ts.map Value.string) [.string t] w hlt (by omega) hnc (by omega) (by omega) hcl rfl hcs' hvs one_str h1v
        refine Calls.mono this ?_
        rintro e w' ⟨rfl,rfl⟩
        have hgr:∀o:Obj,w.grownBy (w.alloc o).drew (some w.heap.size):=fun o=>grown_drew (grown_more (grown_below (alloc_far' w o)))
        refine ⟨_,rfl,⟨by simp,.inr ⟨w.heap.size,_,_,by rw[hmid],hS,heap_sets _ _ (heap_sets (w:=(w.alloc _).drew) _ _ (heap_alloc_new w _)),by rw[hmid];exact hG,grownCap_le_maxLen _ _ _ _ (by unfold maxLen;omega),?_,?_⟩⟩,grown_fresh (grown_sets _ _ (grown_drew (grown_sets _ _ (hgr _)))) (Nat.le_refl _),fun _ h=>.inr (Nat.le_of_eq (Option.some.inj h))⟩
        · rw[setsA_size,setsA_size]
          simp only[Array.size_append,List.size_toArray,size_zeroCells,List.length_take,hcl]
          show min i ts.length+(ts.length+1-i)*1+(grownCap w (ts.length+1) cap 9-(ts.length+1))*1=grownCap w (ts.length+1) cap 9*1
          rw[Nat.min_eq_left (by omega)]
          omega
        · have hsz:∀m n,(Builtin.zeroCells (Value.string ⟨#[]⟩).cells m++Builtin.zeroCells (Value.string ⟨#[]⟩).cells n).toList.length=m+n:=fun m n=>by
            simp only[Array.toList_append,List.length_append,Array.length_toList,size_zeroCells]
            show m*1+n*1=m+n
            omega
          rw[setsA_list _ _ _ (by
            rw[setsA_size]
            simp only[Array.size_append,List.size_toArray,size_zeroCells,List.length_take,hcl,List.length_drop]
            show i+1+(ts.length-i)≤min i ts.length+(ts.length+1-i)*1+(grownCap w (ts.length+1) cap 9-(ts.length+1))*1
            rw[Nat.min_eq_left (by omega)]
            omega),setsA_list _ _ _ (by
            simp only[Array.size_append,List.size_toArray,size_zeroCells,List.length_take,hcl,List.length_singleton]
            show i+1≤min i ts.length+(ts.length+1-i)*1+(grownCap w (ts.length+1) cap 9-(ts.length+1))*1
            rw[Nat.min_eq_left (by omega)]
            omega),hmid,Nat.mul_one]
          simp only[Array.toList_append,List.append_assoc,List.length_singleton]
          have hgt:=grow_take (ts.map Value.string) (Builtin.zeroCells (Value.string ⟨#[]⟩).cells (ts.length+1-i)++Builtin.zeroCells (Value.string ⟨#[]⟩).cells (grownCap w (ts.length+1) cap 9-(ts.length+1))).toList (Value.string t) hcl hlt
          simp only[Array.toList_append,List.append_assoc] at hgt
          refine Eq.trans hgt ?_
          simp
end
end Go.Proofs.YtpkfnnkbfphfbaaGreatDoor.Se

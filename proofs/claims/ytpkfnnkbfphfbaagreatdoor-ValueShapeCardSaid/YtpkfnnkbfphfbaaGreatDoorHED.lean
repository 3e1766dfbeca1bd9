import Derived.Test.YtpkfnnkbfphfbaaGreatDoorHEC
set_option maxRecDepth 100000
set_option maxHeartbeats 40000000
open Go.Lib (hid)
namespace Go.Proofs.YtpkfnnkbfphfbaaGreatDoor.Se
open Go.RowKit Nmx Go.Proofs.Tryz
theorem wm {bi ba:Nat} {d x:Int} {l:Arx.L} {k u:Value} {i:Nat} (w:World) (hE:Env w) (h:AR w d l k u) (hx:Sm x) (hb:eX ba (TI d) k u w) (hi:w.cell? ⟨bi,0,none⟩=some (.string (TI x))) (hil:i<l.length) {r:Int} (hr:cI x l[i].1=r):
    Calls prog 104 #[.int .i64 i,.pointer (some ⟨bi,0,none⟩),.pointer (some ⟨ba,0,none⟩)] w fun e w'=>e=.returned (.int .i64 r)∧Below w.heap.size w w':=by
 obtain ⟨g,o,c,g',o',c',rfl,rfl,hk,-⟩:=h.cell hil;have HCM:=hid fun W (hW:Below w.heap.size w W)=>oL hx (h.sl _ (List.getElem_mem hil)).1 W (hE.far hW) hr
 obtain ⟨tx,htx⟩:∃t,TI x=t:=⟨_,rfl⟩
 obtain ⟨tk,htk⟩:∃t,TI l[i].1=t:=⟨_,rfl⟩
 rw[htx] at hi HCM;rw[htk] at hk HCM;have x3:=aa hb 3;have C0:Hid (∀W,Below w.heap.size w W→W.cell? ⟨bi,0,none⟩=some (.string tx)∧W.cell? ⟨g,o+i,none⟩=some (.string tk)∧W.cell? ⟨ba,3,none⟩=some (.slice (some ⟨g,o,none⟩) l.length c)):=hid fun W hW=>⟨(hW.cell (World.block_lt_of_cell? _ _ hi)).trans hi,(hW.cell (World.block_lt_of_cell? _ _ hk)).trans hk,(hW.cell (World.block_lt_of_cell? _ _ x3)).trans x3⟩
 clear htx htk h hE hb hi hk hr x3;have hi0:(0:Int)≤(i:Int):=by omega
 have hil':(i:Int)<(l.length:Int):=by omega
 generalize l.length=n at *
 go_enter func104,ntmps104
 go_wp2_with fail
 refine cU (fun W=>Below w.heap.size w W) (by kernel_rfl) (by kernel_rfl) (am _ _).drew ?_
 repeat (first
  | (refine dT (v:= ?_) ?_ ?_ ?_
     rotate_left
     · (go_simp;done)
     · intro W hW;obtain ⟨z0,z1,z2⟩:=C0.out W hW
       go_simp
       first
       | with_reducible rfl
       | (go_at_call 58;with_reducible refine (HCM.out W hW).mono ?_;rintro e u ⟨rfl,hb⟩;refine ⟨?_,hW.trans (hb.mono hW.size)⟩;with_reducible rfl)
     simp only[Act.put,ac,ag,ah]))
 refine fu ?_;intro w2 hw2;have HB2:=hid hw2;clear hw2
 go_wp2
 go_ret
 exact ⟨rfl,HB2.out⟩
theorem pY {bi ba:Nat} {d x:Int} {l:Arx.L} {k u:Value} (w:World) (hE:Env w) (h:AR w d l k u) (hx:Sm x) (hb:eX ba (TI d) k u w) (hi:w.cell? ⟨bi,0,none⟩=some (.string (TI x))):
    Calls prog 103 #[.int .i64 l.length,.func (.func 104) #[] #[.pointer (some ⟨bi,0,none⟩),.pointer (some ⟨ba,0,none⟩)]] w fun e w'=>e=.returned (.tuple #[.int .i64 (Arx.ixA l x),.bool (Arx.isA l x)])∧Below w.heap.size w w':=by
 have hln:=h.ln;have HF:=hid fun (W:World) (hW:Below w.heap.size w W) (i:Nat) (hil:i<l.length) (r:Int) (hr:cI x l[i].1=r)=>wm W (hE.far hW) (h.far hW) hx ((hW.block _ (ar hb)).trans hb) ((hW.cell (World.block_lt_of_cell? _ _ hi)).trans hi) hil hr
 have HIX:=hid fun (i:Nat) (hil:i<l.length)=>Arx.ix_lt h.vd (k:=x) hil
 have HLE:=hid (Arx.ixA_le l x);have HAT:=hid (@Arx.isA_at l x);have HEN:=hid (@Arx.isA_end l x);clear hb hi hE h;obtain ⟨n,hn⟩:∃n,l.length=n:=⟨_,rfl⟩
 have HN:=hid hn;rw[hn] at hln ⊢;clear hn
 go_enter func103,ntmps103
 go_wp2_with fail
 go_loopw [4,6] (fun vi vj wr=>∃i j:Nat,vi=.int .i64 i∧vj=.int .i64 j∧i≤Arx.ixA l x∧Arx.ixA l x≤j∧j≤n∧Below w.heap.size w wr) (fun vi vj _=>(intOf vj-intOf vi).toNat)
 case atStart=>exact ⟨0,n,rfl,rfl,aM _,by have:=HLE.out;rw[HN.out] at this;exact this,aj _,am _ _⟩
 case round=>
  obtain ⟨i,j,rfl,rfl,h1,h2,h3,hb⟩:=hrel;have HB:=hid hb;have H1:=hid h1;have H2:=hid h2;clear hb h1 h2
  by_cases hij:i<j
  · have hij':(i:Int)<(j:Int):=by omega
    go_wp2_with fail
    obtain ⟨m,hm⟩:∃m:Nat,((i:Int)+(j:Int)) / 2=(m:Int):=⟨(i+j) / 2,by omega⟩
    rw[hm];have hml:m<l.length:=by rw[HN.out];omega
    have him:i≤m:=by omega
    have hmj:m<j:=by omega
    have hix:=HIX.out m hml;clear hm
    by_cases hlt:l[m].1<x
    · have hr:cI x l[m].1=1:=by unfold cI;rw[aB (by omega),aF hlt]
      have H3:Hid (m+1≤Arx.ixA l x):=hid (hix.1 hlt);refine (HF.out wr HB.out m hml 1 hr).mono ?_;rintro e w2 ⟨rfl,hb⟩;have HB2:=hid (HB.out.trans (hb.mono HB.out.size));clear hb hr hix hlt hml
      go_wp2_with fail
      go_round
      case rel=>exact ⟨m+1,j,by go_num,rfl,H3.out,H2.out,h3,HB2.out⟩
      case measure=>simp[intOf];omega
    · obtain ⟨r,hr,hr0⟩:∃r,cI x l[m].1=r∧¬(0:Int)<r:=⟨_,rfl,by unfold cI;split <;> (try split) <;> omega⟩
      have H3:Hid (Arx.ixA l x≤m):=hid (by have:¬m<Arx.ixA l x:=fun h=>hlt (hix.2 h);omega);refine (HF.out wr HB.out m hml r hr).mono ?_;rintro e w2 ⟨rfl,hb⟩;have HB2:=hid (HB.out.trans (hb.mono HB.out.size));clear hb hr hix hlt hml
      go_wp2_with fail
      go_round
      case rel=>exact ⟨i,m,rfl,rfl,H1.out,H3.out,by omega,HB2.out⟩
      case measure=>simp[intOf];omega
  · have hij':¬(i:Int)<(j:Int):=by omega
    have hie:i=Arx.ixA l x:=by have:=H1.out;have:=H2.out;omega
    have HIE:=hid hie;clear hie
    by_cases hin:i<n
    · have hin':(i:Int)<(n:Int):=by omega
      have hil:i<l.length:=by rw[HN.out];exact hin
      obtain ⟨r,hr⟩:∃r,cI x l[i].1=r:=⟨_,rfl⟩
      have hat:=HAT.out (by rw[←HIE.out];exact hil);have hcall:=HF.out wr HB.out i hil r hr
      have HR:Hid (decide (r=0)=Arx.isA l x):=hid (by
       rw[hat];have e:l[Arx.ixA l x]'(by rw[←HIE.out];exact hil)=l[i]:=by congr 1;exact HIE.out.symm
       rw[e,←hr];unfold cI
       by_cases h0:x<l[i].1
       · rw[aF h0];simp;omega
       · rw[aB h0]
         split
         · simp;omega
         · have:l[i].1=x:=by omega
           simp[this])
      clear hr hat hil
      go_wp2_with fail
      refine hcall.mono ?_;rintro e w2 ⟨rfl,hb⟩;have HB2:=hid (HB.out.trans (hb.mono HB.out.size));clear hb hcall
      go_wp2
      go_ret2
      exact ⟨by rw[←HR.out,←HIE.out];by_cases h:r=0 <;> simp[h],HB2.out⟩
    · have hin':¬(i:Int)<(n:Int):=by omega
      have hen:=HEN.out (by rw[←HIE.out,HN.out];exact hin);have HEN2:=hid hen;clear hen
      go_wp2
      go_ret2
      exact ⟨by rw[HEN2.out,←HIE.out];rfl,HB.out⟩
theorem yD {d x:Int} {l:Arx.L} {k u:Value} (w:World) (hE:Env w) (h:AR w d l k u) (hx:Sm x):
    Calls prog 68 #[bh 4 false (TI d) k u,.string (TI x)] w fun e w'=>e=.returned (.tuple #[.int .i64 (Arx.ixA l x),.bool (Arx.isA l x)])∧Below w.heap.size w w':=by
 have hA:=aO w (.cells #[.int .i64 4,.bool false,.string (TI d),k,u] 24);have hA2:=aO (w.alloc (.cells #[.int .i64 4,.bool false,.string (TI d),k,u] 24)) (.cells #[.string (TI x)] 9);have b1:=(hA2.block _ (ar (aq w (.cells #[.int .i64 4,.bool false,.string (TI d),k,u] 24)))).trans (aq w (.cells #[.int .i64 4,.bool false,.string (TI d),k,u] 24));have b2:=aq (w.alloc (.cells #[.int .i64 4,.bool false,.string (TI d),k,u] 24)) (.cells #[.string (TI x)] 9);rw[show (w.alloc (.cells #[.int .i64 4,.bool false,.string (TI d),k,u] 24)).heap.size=w.heap.size+1 by simp] at b2;have hB:=hA.trans (hA2.mono hA.size);have hs:=pY (bi:=w.heap.size+1) (ba:=w.heap.size) _ (hE.far hB) (h.far hB) hx b1 (aa b2 0);have HB:=hid hB;have x3:=aa b1 3;obtain ⟨a,c,a',c',rfl,rfl⟩:=h.form;unfold bh;generalize TI d=td at *;generalize TI x=tx at *;clear hA hA2 b1 b2 hB h hE;generalize Arx.isA l x=b at *;generalize Arx.ixA l x=j at *;generalize l.length=n at *
 go_enter func68,ntmps68
 go_wp2_with fail
 refine hs.mono ?_;rintro e w2 ⟨rfl,hb⟩;have HB2:=hid (HB.out.trans (hb.mono HB.out.size));clear hb hs x3
 go_wp2
 go_ret2
 exact ⟨rfl,HB2.out⟩
end Go.Proofs.YtpkfnnkbfphfbaaGreatDoor.Se

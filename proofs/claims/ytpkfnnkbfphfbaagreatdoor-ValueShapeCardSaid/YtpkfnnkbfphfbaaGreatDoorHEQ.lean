import Derived.Test.YtpkfnnkbfphfbaaGreatDoorHEP
set_option maxRecDepth 100000
set_option maxHeartbeats 40000000
open Go.Lib (hid)
namespace Go.Proofs.YtpkfnnkbfphfbaaGreatDoor.Se
open Go.RowKit Nmx Go.Proofs.Tryz
def stN:Nd:=⟨19,0,⟨#[]⟩,⟨#[]⟩,3⟩
def coN:Nd:=⟨20,0,⟨#[]⟩,⟨#[]⟩,1⟩
def nuN (z:Int):Nd:=⟨3,2,⟨#[]⟩,TI z,0⟩
def kvN (l:Arx.L):List Nd:=l.flatMap fun p=>[nuN p.1,nuN p.2]
theorem ug (l:Arx.L):(kvN l).length=2*l.length:=by
 unfold kvN
 induction l with
 | nil=>rfl
 | cons p l ih=>rw[List.flatMap_cons,aE,ih];simp;omega
theorem wG {l:Arx.L} {i:Nat} (h:i<l.length):kvN (l.take (i+1))=kvN (l.take i)++[nuN l[i].1,nuN l[i].2]:=by
 unfold kvN;rw[List.take_succ_eq_append_getElem h,List.flatMap_append];rfl
def tsA (d:Int) (l:Arx.L):List Nd:=List.replicate l.length stN++[coN,nuN d]++kvN l
theorem dl (d:Int) (l:Arx.L):(tsA d l).length=3*l.length+2:=by
 unfold tsA;rw[aE,aE,List.length_replicate,ug];simp;omega
abbrev NRow (b:Nat) (w:World) (v:Value) (ts:List Nd):Prop:=w.ownsRow b 57 5 v ts.length (cz ts)
structure TJ (b:Nat) (w2:World) (ts:List Nd) (v4:Value) (a c:Nd) (l2 l3 l4 l10 l11 l12 l13 l14 l15:Bool) (x2 x3 x10 x11 x13 x14 x15:Value) (W:World):Prop where
 bel:Below b w2 W
 own:l14=false→NRow b W v4 ts
 owx:l14=true→NRow b W x14 (ts++[a,c])
 r2:l2=true→l3=false→∃g,x2=.slice (some ⟨g,0,none⟩) 1 1∧W.heap[g]? =some (.cells a.cells.toArray 57 (0,0))
 r3:l3=true→l4=false→∃g,x3=.pointer (some ⟨g,0,none⟩)∧W.heap[g]? =some (.cells a.cells.toArray 57 (0,0))
 r10:l10=true→l11=false→∃g,x10=.slice (some ⟨g,0,none⟩) 1 1∧W.heap[g]? =some (.cells c.cells.toArray 57 (0,0))
 r11:l11=true→l12=false→∃g,x11=.pointer (some ⟨g,0,none⟩)∧W.heap[g]? =some (.cells c.cells.toArray 57 (0,0))
 r13:l13=true→l14=false→∃g,x13=.slice (some ⟨g,0,none⟩) 2 2∧W.heap[g]? =some (.cells (cz [a,c]).toArray 57 (0,0))
 r15:l15=true→x15=x14
theorem NRow.far {b:Nat} {w w':World} {v:Value} {ts:List Nd} (h:NRow b w v ts) (hb:Below w.heap.size w w'):NRow b w' v ts:=eF h hb fun g hg=>(h.lt g hg).2
theorem TJ.far {b:Nat} {w2:World} {ts:List Nd} {v4:Value} {a c:Nd} {l2 l3 l4 l10 l11 l12 l13 l14 l15:Bool} {x2 x3 x10 x11 x13 x14 x15:Value} {W W':World} (h:TJ b w2 ts v4 a c l2 l3 l4 l10 l11 l12 l13 l14 l15 x2 x3 x10 x11 x13 x14 x15 W) (hs:b≤w2.heap.size) (hb:Below W.heap.size W W'):
    TJ b w2 ts v4 a c l2 l3 l4 l10 l11 l12 l13 l14 l15 x2 x3 x10 x11 x13 x14 x15 W' where
 bel:=h.bel.trans (hb.mono (aP hs h.bel.size))
 own:=fun e=>(h.own e).far hb
 owx:=fun e=>(h.owx e).far hb
 r2:=fun e e'=>let ⟨g,h1,h2⟩:=h.r2 e e';⟨g,h1,(hb.block _ (ar h2)).trans h2⟩
 r3:=fun e e'=>let ⟨g,h1,h2⟩:=h.r3 e e';⟨g,h1,(hb.block _ (ar h2)).trans h2⟩
 r10:=fun e e'=>let ⟨g,h1,h2⟩:=h.r10 e e';⟨g,h1,(hb.block _ (ar h2)).trans h2⟩
 r11:=fun e e'=>let ⟨g,h1,h2⟩:=h.r11 e e';⟨g,h1,(hb.block _ (ar h2)).trans h2⟩
 r13:=fun e e'=>let ⟨g,h1,h2⟩:=h.r13 e e';⟨g,h1,(hb.block _ (ar h2)).trans h2⟩
 r15:=h.r15
theorem wH (n:Nat) (hn:n≤1000000) (z:Int) (hz:z=n) (W:World):
    (Instr.makeSlice 45 (.int .i64 0) (.int .i64 z)).run prog W=.ok (.slice (some ⟨W.heap.size,0,none⟩) 0 n) (W.alloc (.cells (madeCells #[.int .i64 0,.int .i64 0,.string ⟨#[]⟩,.string ⟨#[]⟩,.int .i64 0] (n*5)) 57)):=by
 subst hz;obtain ⟨i0,hi,hz0,hz1,hz2⟩:=info_parts lV;have hr:=run_make (P:=prog) W 45 57 i0 _ underlying45 hi hz0 .i64 .i64 0 n (by omega) (by omega) (by rw[hz2];omega) (by omega);rw[hz1,Int.toNat_natCast] at hr;exact hr
theorem NRow.made (w:World) (n:Nat) (hn:n≤1000000):NRow w.heap.size (w.alloc (.cells (madeCells #[.int .i64 0,.int .i64 0,.string ⟨#[]⟩,.string ⟨#[]⟩,.int .i64 0] (n*5)) 57)) (.slice (some ⟨w.heap.size,0,none⟩) 0 n) []:=
 World.ownsRow_made w _ n (aj _) (by unfold maxLen;omega) (by rw[size_madeCells])
theorem ql {d:Int} {l:Arx.L} {k u:Value} (w:World) (hE:Env w) (h:AR w d l k u) (hvd:vdF (naF (tsA d l)) (tsA d l)=true):
    Calls prog 24 #[bh 4 false (TI d) k u] w fun e w'=>∃g c,e=.returned (.tuple #[.slice (some ⟨g,0,none⟩) (3*l.length+2) c,.int .i64 0])∧NodesAt w' g (tsA d l)∧g<w'.heap.size∧Below w.heap.size w w':=by
 obtain ⟨i0,hi,hz0,hz1,hz2⟩:=info_parts lV;have hln:=h.ln;have hA:=aO w (.cells #[.int .i64 4,.bool false,.string (TI d),k,u] 24);have hva:=pX _ (hE.far hA) (h.far hA);have HX1:=hid (aq w (.cells #[.int .i64 4,.bool false,.string (TI d),k,u] 24));have HB:=hid hA;have HAV:=hid h;have HTL:=hid (dl d l)
 have HVF:=hid fun (W:World) (hW:Below w.heap.size w W) (g c:Nat) (hg:g<W.heap.size) (hn:NodesAt W g (tsA d l))=>iR (iT g c (tsA d l) W (by rw[dl];omega) hg hn (by
  intro x hx;unfold tsA kvN at hx;have hs:∀z:Int,Sm z→(nuN z).num.size≤1000:=fun z h=>by have:=h.sz;show (TI z).size≤1000;omega
  simp only[List.mem_append,List.mem_replicate,List.mem_cons,List.not_mem_nil,or_false,List.mem_flatMap] at hx;rcases hx with (⟨-,rfl⟩ | rfl | rfl) | ⟨p,hp,rfl | rfl⟩
  · exact aM _
  · exact aM _
  · exact hs d h.sd
  · exact hs _ (h.sl p hp).1
  · exact hs _ (h.sl p hp).2) (hE.far hW) (by
  intro x hx;unfold tsA kvN at hx;simp only[List.mem_append,List.mem_replicate,List.mem_cons,List.not_mem_nil,or_false,List.mem_flatMap] at hx;rcases hx with (⟨-,rfl⟩ | rfl | rfl) | ⟨p,hp,rfl | rfl⟩
  · decide
  · decide
  · show ¬(3:Int)=5;decide
  · show ¬(3:Int)=5;decide
  · show ¬(3:Int)=5;decide) hvd)
 rw[hvd] at HVF;obtain ⟨ak,ck,au,cu,rfl,rfl⟩:=h.form;unfold bh at hva ⊢;obtain ⟨td,htd⟩:∃t,TI d=t:=⟨_,rfl⟩
 have hnd:nuN d=⟨3,2,⟨#[]⟩,td,0⟩:=by rw[←htd];rfl
 rw[htd] at hva HX1 HB ⊢;have HND:=hid hnd;clear hA h hE htd hnd hvd;obtain ⟨n,hn⟩:∃n,l.length=n:=⟨_,rfl⟩
 have HN:=hid hn;rw[hn] at hva HX1 HB hln HTL ⊢;simp only[hn] at HAV;have HMK:=hid (wH (3*n+2) (by omega) (3*(n:Int)+2) (by omega));have HRM:=hid fun W=>NRow.made W (3*n+2) (by omega)
 clear hn
 go_enter func24,ntmps24
 go_wp2_with fail
 generalize hw1:World.alloc _ _=w1 at *;refine hva.mono ?_;rintro e w2 ⟨rfl,hb⟩;have HB2:=hid (HB.out.trans (hb.mono HB.out.size));have HX2:=hid ((hb.block _ (ar HX1.out)).trans HX1.out);have x0:=aa HX2.out 0;have x2:=aa HX2.out 2;have x3:=aa HX2.out 3;have x4:=aa HX2.out 4;have HBW:Hid (w.heap.size<w2.heap.size):=hid (ar HX2.out);have hmk:=HMK.out w2;have hrow:=HRM.out w2;have hal:=aO w2 (.cells (madeCells #[.int .i64 0,.int .i64 0,.string ⟨#[]⟩,.string ⟨#[]⟩,.int .i64 0] ((3*n+2)*5)) 57);have HROW:=hid hrow;have HAL:=hid hal;clear hb hva hw1 HB HX1 hrow hal
 go_upto_region 10 with fail
 clear hmk x0 x2 x4;generalize hw3:w2.alloc (.cells _ 57)=w3 at *;have hX3:=(HAL.out.block _ HBW.out).trans HX2.out;have y3:=aa hX3 3;clear x3 hw3 hX3;generalize hb:w2.heap.size=b at *;have HBS:=hid hb;clear hb
 go_wp2_with fail
 go_loopw [4,34] (fun v4 v34 wr=>∃j:Nat,j≤n∧v34=.int .i64 (j:Nat)∧NRow b wr v4 (List.replicate j stN)∧Below b w2 wr) (fun _ v _=>n-(intOf v).toNat)
 case atStart=>exact ⟨0,aM _,rfl,HROW.out,HAL.out⟩
 case round=>
  obtain ⟨j,hj,rfl,hrow,hbl⟩:=hrel
  by_cases hlt:j<n
  · have hlt':(j:Int)<(n:Int):=by omega
    have HR:=hid hrow;have HBL:=hid hbl;obtain ⟨a1,c1,rfl⟩:=cR hrow;simp only[List.length_replicate] at HR ⊢;clear hrow hbl
    go_wp2_with (at_builtin;go_loud (refine wpList_append_own _ rfl (.tmp 36) (.tmp 38) 45 rfl b 57 i0 _ 5 56 underlying45 hi hz0 hz1 hz2 rfl (by decide) (.slice a1 j c1) j (cz (List.replicate j stN)) rfl (by have h:=HR.out.alloc (.cells #[.int .i64 19,.int .i64 0,.string ⟨#[]⟩,.string ⟨#[]⟩,.int .i64 3] 57);rw[List.length_replicate] at h;exact h) ⟨wr.heap.size,0,none⟩ 1 1 (cz [stN]) rfl rfl (World.news_of_block (cs:=#[.int .i64 19,.int .i64 0,.string ⟨#[]⟩,.string ⟨#[]⟩,.int .i64 3]) (t:=57) (fr:=(0,0)) (aq wr _)) (oK _) (by unfold maxLen;omega) (by omega) (by have:=HBL.out.size;have:=HBS.out;simp;omega) ?_))
    intro v' w5 hown hgr _;have hbl5:=(HBL.out.alloc (by have:=HBL.out.size;have:=HBS.out;omega) (.cells #[.int .i64 19,.int .i64 0,.string ⟨#[]⟩,.string ⟨#[]⟩,.int .i64 3] 57)).grown hgr (by have:=HBL.out.size;have:=HBS.out;simp;omega) (fun k hk=>(HR.out.lt k hk).1)
    have hrow:NRow b w5 v' (List.replicate (j+1) stN):=by
     show World.ownsRow _ _ _ _ _ _ _;rw[List.length_replicate,List.replicate_succ',iW];exact hown
    have HR5:=hid hrow;have HBL5:=hid hbl5;clear hown hgr hbl5 hrow HR HBL
    go_wp2_with fail
    go_roundw
    case rel=>exact ⟨j+1,by omega,by go_num,HR5.out,HBL5.out⟩
    case measure=>simp[intOf];omega
  · obtain rfl:j=n:=by omega
    have HR:=hid hrow;have HBL:=hid hbl;have hX:=(hbl.block _ HBW.out).trans HX2.out;have y2:=aa hX 2;obtain ⟨a1,c1,rfl⟩:=cR hrow;simp only[List.length_replicate] at HR ⊢;have HNW:=hid (fL td 2 wr);clear hrow hbl hX
    go_wp2_with fail
    refine HNW.out.mono ?_;rintro e w5 ⟨rfl,hbx,hb5⟩;have HR5:=hid (HR.out.far hb5);have HBL5:=hid (HBL.out.trans (hb5.mono (by have:=HBL.out.size;have:=HBS.out;omega)));have z0:=aa hbx 0;have z1:=aa hbx 1;have z2:=aa hbx 2;have z3:=aa hbx 3;have z4:=aa hbx 4;clear hbx hb5 HNW y2 HR HBL
    go_wp2_with (at_builtin;go_loud (refine wpList_append_own _ rfl (.tmp 41) (.tmp 48) 45 rfl b 57 i0 _ 5 56 underlying45 hi hz0 hz1 hz2 rfl (by decide) (.slice a1 j c1) j (cz (List.replicate j stN)) rfl (by have h:=HR5.out.alloc (.cells #[.int .i64 20,.int .i64 0,.string ⟨#[]⟩,.string ⟨#[]⟩,.int .i64 1,.int .i64 3,.int .i64 2,.string ⟨#[]⟩,.string td,.int .i64 0] 57);rw[List.length_replicate] at h;exact h) ⟨w5.heap.size,0,none⟩ 2 2 (cz [coN,⟨3,2,⟨#[]⟩,td,0⟩]) rfl rfl (World.news_of_block (cs:=#[.int .i64 20,.int .i64 0,.string ⟨#[]⟩,.string ⟨#[]⟩,.int .i64 1,.int .i64 3,.int .i64 2,.string ⟨#[]⟩,.string td,.int .i64 0]) (t:=57) (fr:=(0,0)) (aq w5 _)) (oK _) (by unfold maxLen;omega) (by omega) (by have:=HBL5.out.size;have:=HBS.out;simp;omega) ?_))
    intro v' w6 hown hgr _;have hbl6:=(HBL5.out.alloc (by have:=HBL5.out.size;have:=HBS.out;omega) (.cells #[.int .i64 20,.int .i64 0,.string ⟨#[]⟩,.string ⟨#[]⟩,.int .i64 1,.int .i64 3,.int .i64 2,.string ⟨#[]⟩,.string td,.int .i64 0] 57)).grown hgr (by have:=HBL5.out.size;have:=HBS.out;simp;omega) (fun k hk=>(HR5.out.lt k hk).1)
    have hrow:NRow b w6 v' (List.replicate j stN++[coN,nuN d]):=by
     show World.ownsRow _ _ _ _ _ _ _;rw[aE,List.length_replicate,iW,HND.out];exact hown
    have HR6:=hid hrow;have HBL6:=hid hbl6;obtain ⟨a2,c2,rfl⟩:=cR hrow;have hX:=(hbl6.block _ HBW.out).trans HX2.out;have y3:=aa hX 3;clear hown hgr hbl6 hrow HR5 HBL5 hX z0 z1 z2 z3 z4
    go_wp2_with fail
    generalize hpre:List.replicate j stN++[coN,nuN d]=pre at *;have hpl0:pre.length=j+2:=by rw[←hpre];simp
    have HPL:=hid hpl0;have HPRE:=hid hpre;clear hpre y3 hpl0
    go_loopw [4,5,6,53] (fun v4 _ _ v53 wr=>∃i:Nat,i≤j∧v53=.int .i64 (i:Nat)∧NRow b wr v4 (pre++kvN (l.take i))∧Below b w2 wr) (fun _ _ _ v _=>j-(intOf v).toNat)
    case atStart=>exact ⟨0,aM _,rfl,by simpa [kvN] using HR6.out,HBL6.out⟩
    case round=>
     obtain ⟨i,hi2,rfl,hrow,hbl⟩:=hrel
     by_cases hlt:i<j
     · have hlt':(i:Int)<(j:Int):=by omega
       have hil:i<l.length:=by rw[HN.out];exact hlt
       have hlen:(pre++kvN (l.take i)).length≤4000:=by
        rw[aE,HPL.out,ug,List.length_take];omega
       have HNX:=hid (wG hil);obtain ⟨g1,o1,c9,g2,o2,c8,e1,e2,-,-⟩:=HAV.out.cell hil;rw[HN.out] at e1 e2;obtain ⟨rfl,-,rfl⟩:=Value.slice.inj e1;obtain ⟨rfl,-,rfl⟩:=Value.slice.inj e2;clear e1 e2
       have HCW:Hid (∀W,Below b w2 W→W.cell? ⟨g1,o1+i,none⟩=some (.string (TI l[i].1))∧W.cell? ⟨g2,o2+i,none⟩=some (.string (TI l[i].2))):=hid fun W hW=>by
        obtain ⟨g3,o3,c7,g4,o4,c6,e1,e2,q1,q2⟩:=(HAV.out.far (HB2.out.trans (hW.mono (aL HBW.out)))).cell hil;rw[HN.out] at e1 e2;obtain ⟨e1,-,-⟩:=Value.slice.inj e1;obtain ⟨e2,-,-⟩:=Value.slice.inj e2;obtain ⟨rfl,rfl,-⟩:=Addr.mk.inj (aI e1);obtain ⟨rfl,rfl,-⟩:=Addr.mk.inj (aI e2);exact ⟨q1,q2⟩
       obtain ⟨tk,htk⟩:∃t,TI l[i].1=t:=⟨_,rfl⟩
       obtain ⟨tv,htv⟩:∃t,TI l[i].2=t:=⟨_,rfl⟩
       rw[htk,htv] at HCW;have ha:nuN l[i].1=⟨3,2,⟨#[]⟩,tk,0⟩:=by rw[←htk];rfl
       have hc:nuN l[i].2=⟨3,2,⟨#[]⟩,tv,0⟩:=by rw[←htv];rfl
       rw[ha,hc] at HNX;clear htk htv ha hc;generalize hts:pre++kvN (l.take i)=ts at *;have HTS:=hid hts;clear hts;have hk:=(HCW.out wr hbl).1;have HXW:Hid (∀W,Below b w2 W→W.heap[w.heap.size]? =_):=hid fun W hW=>(hW.block _ HBW.out).trans HX2.out
       have HVW:=hid fun W hW=>(HCW.out W hW).2
       obtain ⟨a3,c3,rfl⟩:=cR hrow;have HROW2:=hid hrow;have HBL2:=hid hbl;generalize hm3:ts.length=m3 at *;have HM3:=hid hm3;clear hrow hbl hm3
       go_upto_region 18 with fail
       clear hk;refine cE [[],[],[1],[1,2],[1,2,3],[],[5],[],[5,6,7],[5,6,7,8],[1,2,5,6,7,8,9],[1,2,5,6,7,8,9,10],[1,2,5,6,7,8,9,10,11],[1,2,3,4,5,6,7,8,9,10,11,12],[0,1,2,3,4,5,6,7,8,9,10,11,12,13],[0,1,2,3,4,5,6,7,8,9,10,11,12,13,14]] (fun x L W=>TJ b w2 ts (.slice a3 m3 c3) ⟨3,2,⟨#[]⟩,tk,0⟩ ⟨3,2,⟨#[]⟩,tv,0⟩ (L 2) (L 3) (L 4) (L 10) (L 11) (L 12) (L 13) (L 14) (L 15) (x 2) (x 3) (x 10) (x 11) (x 13) (x 14) (x 15) W) ?_;apply bf
       · intro x;go_simp;done
       · intro x L W R hJ h1 h2 h3 hR;unfold aR
         go_simp
         simp only[aJ];exact hR _ hJ
       simp only[Act.put,ac,ag,ah];apply bf
       · intro x;go_simp;done
       · intro x L W R hJ h1 h2 h3 hR;unfold aR
         go_simp
         simp only[aJ];exact hR _ hJ
       simp only[Act.put,ac,ag,ah];apply bI
       · intro x;go_simp;done
       · intro x L W R hJ h1 h2 h3 hR;have hc:=fL tk 2 W;unfold aR
         go_simp
         simp only[aJ];refine hc.mono ?_;rintro e w' ⟨rfl,hbx,hb⟩;exact ⟨_,rfl,hR _ _ (by have hf:=hJ.far (Nat.le_of_eq HBS.out.symm) hb;exact ⟨hf.bel,hf.own,hf.owx,fun _ _=>⟨_,rfl,hbx⟩,hf.r3,hf.r10,hf.r11,hf.r13,hf.r15⟩)⟩
       simp only[Act.put,ac,ag,ah,aw,aN,Nat.zero_add,Nat.reduceAdd];apply bI
       · intro x;go_simp;done
       · intro x L W R hJ h1 h2 h3 hR;obtain ⟨g0,q1,q2⟩:=hJ.r2 (h1 2 (show (2:Nat)∈([1,2]:List Nat) by decide)) h2;have HJ:=hid hJ;have HBX:=hid q2;clear hJ q2;rw[q1];unfold aR
         go_simp
         simp only[aJ];exact hR _ _ ⟨HJ.out.bel,HJ.out.own,HJ.out.owx,fun _ h=>absurd (show true=false from h) (by decide),fun _ _=>⟨g0,rfl,HBX.out⟩,HJ.out.r10,HJ.out.r11,HJ.out.r13,HJ.out.r15⟩
       simp only[Act.put,ac,ag,ah,aw,aN,Nat.zero_add,Nat.reduceAdd];apply bf
       · intro x;go_simp;done
       · intro x L W R hJ h1 h2 h3 hR;obtain ⟨g0,q1,q2⟩:=hJ.r3 (h1 3 (show (3:Nat)∈([1,2,3]:List Nat) by decide)) h2;have q2:W.heap[g0]? =some (.cells #[.int .i64 3,.int .i64 2,.string ⟨#[]⟩,.string tk,.int .i64 0] 57 (0,0)):=q2;have z0:=aa q2 0;have z1:=aa q2 1;have z2:=aa q2 2;have z3:=aa q2 3;have z4:=aa q2 4;have HJ:=hid hJ;clear hJ q2;rw[q1];unfold aR
         go_simp
         simp only[aJ];exact hR _ ⟨HJ.out.bel,HJ.out.own,HJ.out.owx,HJ.out.r2,fun _ h=>absurd (show true=false from h) (by decide),HJ.out.r10,HJ.out.r11,HJ.out.r13,HJ.out.r15⟩
       simp only[Act.put,ac,ag,ah];apply bf
       · intro x;go_simp;done
       · intro x L W R hJ h1 h2 h3 hR;have hX:=HXW.out W hJ.bel;have z4:=aa hX 4;have hv:=HVW.out W hJ.bel;clear hX;unfold aR
         go_simp
         simp only[aJ];exact hR _ hJ
       simp only[Act.put,ac,ag,ah];apply bf
       · intro x;go_simp;done
       · intro x L W R hJ h1 h2 h3 hR;have hX:=HXW.out W hJ.bel;have z4:=aa hX 4;have hv:=HVW.out W hJ.bel;clear hX;unfold aR
         go_simp
         simp only[aJ];exact hR _ hJ
       simp only[Act.put,ac,ag,ah];apply bf
       · intro x;go_simp;done
       · intro x L W R hJ h1 h2 h3 hR;have hX:=HXW.out W hJ.bel;have z4:=aa hX 4;have hv:=HVW.out W hJ.bel;clear hX;unfold aR
         go_simp
         simp only[aJ];exact hR _ hJ
       simp only[Act.put,ac,ag,ah];apply bf
       · intro x;go_simp;done
       · intro x L W R hJ h1 h2 h3 hR;have hX:=HXW.out W hJ.bel;have z4:=aa hX 4;have hv:=HVW.out W hJ.bel;clear hX;unfold aR
         go_simp
         simp only[aJ];exact hR _ hJ
       simp only[Act.put,ac,ag,ah];apply bf
       · intro x;go_simp;done
       · intro x L W R hJ h1 h2 h3 hR;have hX:=HXW.out W hJ.bel;have z4:=aa hX 4;have hv:=HVW.out W hJ.bel;clear hX;unfold aR
         go_simp
         simp only[aJ];exact hR _ hJ
       simp only[Act.put,ac,ag,ah];apply bI
       · intro x;go_simp;done
       · intro x L W R hJ h1 h2 h3 hR;have hc:=fL tv 2 W;unfold aR
         go_simp
         simp only[aJ];refine hc.mono ?_;rintro e w' ⟨rfl,hbx,hb⟩;exact ⟨_,rfl,hR _ _ (by have hf:=hJ.far (Nat.le_of_eq HBS.out.symm) hb;exact ⟨hf.bel,hf.own,hf.owx,hf.r2,hf.r3,fun _ _=>⟨_,rfl,hbx⟩,hf.r11,hf.r13,hf.r15⟩)⟩
       simp only[Act.put,ac,ag,ah,aw,aN,Nat.zero_add,Nat.reduceAdd];apply bI
       · intro x;go_simp;done
       · intro x L W R hJ h1 h2 h3 hR;obtain ⟨g0,q1,q2⟩:=hJ.r10 (h1 10 (show (10:Nat)∈([1,2,5,6,7,8,9,10]:List Nat) by decide)) h2;have HJ:=hid hJ;have HBX:=hid q2;clear hJ q2;rw[q1];unfold aR
         go_simp
         simp only[aJ];exact hR _ _ ⟨HJ.out.bel,HJ.out.own,HJ.out.owx,HJ.out.r2,HJ.out.r3,fun _ h=>absurd (show true=false from h) (by decide),fun _ _=>⟨g0,rfl,HBX.out⟩,HJ.out.r13,HJ.out.r15⟩
       simp only[Act.put,ac,ag,ah,aw,aN,Nat.zero_add,Nat.reduceAdd];apply bf
       · intro x;go_simp;done
       · intro x L W R hJ h1 h2 h3 hR;obtain ⟨g0,q1,q2⟩:=hJ.r11 (h1 11 (show (11:Nat)∈([1,2,5,6,7,8,9,10,11]:List Nat) by decide)) h2;have q2:W.heap[g0]? =some (.cells #[.int .i64 3,.int .i64 2,.string ⟨#[]⟩,.string tv,.int .i64 0] 57 (0,0)):=q2;have z0:=aa q2 0;have z1:=aa q2 1;have z2:=aa q2 2;have z3:=aa q2 3;have z4:=aa q2 4;have HJ:=hid hJ;clear hJ q2;rw[q1];unfold aR
         go_simp
         simp only[aJ];exact hR _ ⟨HJ.out.bel,HJ.out.own,HJ.out.owx,HJ.out.r2,HJ.out.r3,HJ.out.r10,fun _ h=>absurd (show true=false from h) (by decide),HJ.out.r13,HJ.out.r15⟩
       simp only[Act.put,ac,ag,ah];apply bI
       · intro x;go_simp;done
       · intro x L W R hJ h1 h2 h3 hR;have hb:=aO W (.cells #[.int .i64 3,.int .i64 2,.string ⟨#[]⟩,.string tk,.int .i64 0,.int .i64 3,.int .i64 2,.string ⟨#[]⟩,.string tv,.int .i64 0] 57);have hf:=hJ.far (Nat.le_of_eq HBS.out.symm) hb;have hbx:=aq W (.cells #[.int .i64 3,.int .i64 2,.string ⟨#[]⟩,.string tk,.int .i64 0,.int .i64 3,.int .i64 2,.string ⟨#[]⟩,.string tv,.int .i64 0] 57);have HF:=hid hf;have HBX:=hid hbx;clear hJ hf hb hbx;unfold aR
         go_simp
         simp only[aJ];exact hR _ _ ⟨HF.out.bel,HF.out.own,HF.out.owx,HF.out.r2,HF.out.r3,HF.out.r10,HF.out.r11,fun _ _=>⟨_,rfl,HBX.out⟩,HF.out.r15⟩
       simp only[Act.put,ac,ag,ah,aw,aN,Nat.zero_add,Nat.reduceAdd];apply bI
       · intro x;go_simp;done
       · intro x L W R hJ h1 h2 h3 hR;obtain ⟨g0,q1,q2⟩:=hJ.r13 (h1 13 (show (13:Nat)∈([0,1,2,3,4,5,6,7,8,9,10,11,12,13]:List Nat) by decide)) h2;rw[q1];have hown:=hJ.own h2;have hsz:b≤W.heap.size:=by have:=hJ.bel.size;have:=HBS.out;omega
         refine jP (.tmp 58) (.tmp 71) 45 rfl b 57 i0 _ 5 56 underlying45 hi hz0 hz1 hz2 rfl (by decide) (.slice a3 m3 c3) ts.length (cz ts) rfl hown ⟨g0,0,none⟩ 2 2 (cz [⟨3,2,⟨#[]⟩,tk,0⟩,⟨3,2,⟨#[]⟩,tv,0⟩]) rfl rfl (World.news_of_block (cs:=(cz [⟨3,2,⟨#[]⟩,tk,0⟩,⟨3,2,⟨#[]⟩,tv,0⟩]).toArray) (t:=57) (fr:=(0,0)) q2) (oK _) (by have:=HM3.out;unfold maxLen;omega) (by have:=HM3.out;omega) hsz ?_;intro v' w' hown' hgr;have h15:L 15=false:=(h3 15 (show (14:Nat)∈([0,1,2,3,4,5,6,7,8,9,10,11,12,13,14]:List Nat) by decide))
         refine hR _ _ ⟨hJ.bel.grown hgr (by have:=HBS.out;omega) (fun k hk=>(hown.lt k hk).1),fun h=>absurd (show true=false from h) (by decide),fun _=>?_,fun _ h=>absurd ((h1 3 (show (3:Nat)∈([0,1,2,3,4,5,6,7,8,9,10,11,12,13]:List Nat) by decide)).symm.trans (show L 3=false from h)) (by decide),fun _ h=>absurd ((h1 4 (show (4:Nat)∈([0,1,2,3,4,5,6,7,8,9,10,11,12,13]:List Nat) by decide)).symm.trans (show L 4=false from h)) (by decide),fun _ h=>absurd ((h1 11 (show (11:Nat)∈([0,1,2,3,4,5,6,7,8,9,10,11,12,13]:List Nat) by decide)).symm.trans (show L 11=false from h)) (by decide),fun _ h=>absurd ((h1 12 (show (12:Nat)∈([0,1,2,3,4,5,6,7,8,9,10,11,12,13]:List Nat) by decide)).symm.trans (show L 12=false from h)) (by decide),fun _ h=>absurd (show true=false from h) (by decide),fun h=>absurd (h15.symm.trans (show L 15=true from h)) (by decide)⟩;show World.ownsRow _ _ _ _ _ _ _;rw[aE,iW];exact hown'
       simp only[Act.put,ac,ag,ah,aw,aN,Nat.zero_add,Nat.reduceAdd];apply bI
       · intro x;go_simp;done
       · intro x L W R hJ h1 h2 h3 hR;unfold aR
         go_simp
         simp only[aJ];exact hR _ _ ⟨hJ.bel,hJ.own,hJ.owx,hJ.r2,hJ.r3,hJ.r10,hJ.r11,hJ.r13,fun _=>rfl⟩
       simp only[Act.put];refine ia (by kernel_rfl) (by kernel_rfl) ⟨HBL2.out.drew,fun _=>?_,fun h=>absurd (show false=true from h) (by decide),fun h=>absurd (show false=true from h) (by decide),fun h=>absurd (show false=true from h) (by decide),fun h=>absurd (show false=true from h) (by decide),fun h=>absurd (show false=true from h) (by decide),fun h=>absurd (show false=true from h) (by decide),fun h=>absurd (show false=true from h) (by decide)⟩ ?_
       · exact aX HROW2.out fun _ _=>rfl
       intro x L W hJ hL;have hrow:=hJ.owx (hL 14 (show 14<16 by decide));have h15:=hJ.r15 (hL 15 (show 15<16 by decide));rw[←h15] at hrow;have hbl:=hJ.bel;have HRW3:=hid hrow;have HBL3:=hid hbl;clear hJ hL h15 hrow hbl
       go_wp2_with fail
       go_roundw
       case rel=>exact ⟨i+1,by omega,by go_num,by rw[HNX.out,←List.append_assoc,HTS.out];exact HRW3.out,HBL3.out⟩
       case measure=>simp[intOf];omega
     · obtain rfl:i=j:=by omega
       have hall:pre++kvN (l.take i)=tsA d l:=by
        rw[aT (by rw[HN.out];omega)];unfold tsA;rw[HN.out,HPRE.out]
       rw[hall] at hrow;obtain ⟨g,c,rfl,hbg,-⟩:=bP hrow (by rw[HTL.out];omega);have hno:NodesAt wr g (tsA d l):=ju fun q hq=>World.ownsRow.cellAt hrow q hq
       have hgl:g<wr.heap.size:=(hrow.lt g rfl).2;have hBw:=HB2.out.trans (hbl.mono (aL HBW.out));have hval:=HVF.out wr hBw g c hgl hno;rw[HTL.out] at hval ⊢;have HNO:=hid hno;have HGL:Hid (g<wr.heap.size):=hid hgl;have HBW2:=hid hBw;clear hrow hbl hall hno hgl hBw hbg
       go_wp2_with fail
       refine hval.mono ?_;rintro e w7 ⟨rfl,hb7⟩;have HN7:=hid (HNO.out.below hb7 HGL.out);have HB7:=hid (HBW2.out.trans (hb7.mono HBW2.out.size));have HG7:Hid (g<w7.heap.size):=hid (aC HGL.out hb7.size);clear hval hb7
       go_wp2
       go_ret2
       exact ⟨_,_,rfl,HN7.out,HG7.out,HB7.out⟩
end Go.Proofs.YtpkfnnkbfphfbaaGreatDoor.Se

/- Two rows of strings that grow side by side in a box. -/
import Derived.Test.YtpkfnnkbfphfbaaGreatDoorGEF
import Derived.Test.YtpkfnnkbfphfbaaGreatDoorGEJ
import Derived.Maps.AppendAt
import Derived.Test.YtpkfnnkbfphfbaaGreatDoorGFA
import Derived.Test.YtpkfnnkbfphfbaaGreatDoorGEK
set_option maxRecDepth 100000
set_option maxHeartbeats 40000000
namespace Go.Proofs.YtpkfnnkbfphfbaaGreatDoor.Se
open Go.RowKit Nmx

theorem infoStr2:(Tryz.prog.info? 9).map (fun i=>(i.zero,i.size,i.bytes))=some (some (.string ⟨#[]⟩),1,16):=by kernel_rfl
theorem addAt_append_at {P:Program} {o:Oper} {a:Act} {w:World} {R:Value→World→Prop} (s x:Operand) (t:TypeId)
    (ho:o.op=.call { callee:=.builtin .append,args:=#[s,x],argTypes:=#[t,t] })
    (base:Nat) (e:TypeId) (i:TypeInfo) (z:Value) (size bytes:Nat) (ht:P.underlying t=some (.slice e)) (hi:P.info? e=some i) (hz:i.zero=some z)
    (hsize:i.size=size) (hby:i.bytes=bytes) (hzs:z.cells.size=size) (hsz:0<size)
    (v:Value) (n:Nat) (xs:List Value) (hs:a.eval s=v) (hown:w.ownsRow base e size v n xs)
    (ad:Addr) (m c:Nat) (news:List Value) (hx:a.eval x=.slice (some ad) m c) (hl:news.length=m*size) (hnews:∀j u,news[j]? =some u→w.cell? (ad.add j)=some u) (h1:∀u∈news,u.oneCell'=true)
    (h63:n+m≤maxLen) (hbytes:(n+m)*bytes≤140737488355328) (hbase:base≤w.heap.size)
    (h:∀v' w',w'.ownsRow base e size v' (n+m) (xs++news)→w.grownBy w' v.ownBlock→(v'.ownBlock=v.ownBlock∨v'.ownBlock=some w.heap.size)→R v' w'):addAt P o a w R:=by
  obtain ⟨v',w',hr,h2,h3,-,h5⟩:=run_append_own_at (P:=P) w base t o.type e i z size bytes ht hi hz hsize hby hzs hsz v n xs hown ad m c news hl hnews h1 h63 hbytes hbase
  unfold addAt execOp
  simp only[ho,resolve,invoke,builtin,Sem.run_bind,Sem.run_pure,Result.andThen_ok,List.map_toArray,List.map_cons,List.map_nil,hs,hx,hr]
  exact h v' w' h2 h3 h5
theorem SRow.snoc {S:Nat} {w:World} {u:Value} {ts:List ByteArray} {t:ByteArray} (h:w.ownsRow S 9 1 u (ts.length+1) (ts.map Value.string++[.string t])):SRow S w u (ts++[t]):=by
  show World.ownsRow _ _ _ _ _ _ _
  rw[List.length_append,List.map_append];exact h
structure RJ (O:Nat) (w0:World) (td:ByteArray) (ko uo:Value) (ts us:List ByteArray) (tk tv:ByteArray) (l3 l4 l8 l9 l11 l13:Bool) (x3 x4 x8 x9:Value) (W:World):Prop where
  bel:Below O w0 W
  box:W.heap[O]? =some (.cells #[.int .i64 4,.bool false,.string td,bif l11 then x4 else ko,bif l13 then x9 else uo] 24 (0,0))
  kr:SRow (O+1) W (bif l4 then x4 else ko) (bif l4 then ts++[tk] else ts)
  ur:SRow (O+1) W (bif l9 then x9 else uo) (bif l9 then us++[tv] else us)
  ne:∀g,(bif l4 then x4 else ko).ownBlock=some g→(bif l9 then x9 else uo).ownBlock≠some g
  s3:l3=true→l4=false→∃g,x3=.slice (some ⟨g,0,none⟩) 1 1∧W.heap[g]? =some (.cells #[.string tk] 9 (0,0))∧(bif l9 then x9 else uo).ownBlock≠some g
  s8:l8=true→l9=false→∃g,x8=.slice (some ⟨g,0,none⟩) 1 1∧W.heap[g]? =some (.cells #[.string tv] 9 (0,0))∧(bif l4 then x4 else ko).ownBlock≠some g
section
variable {O:Nat} {w0:World} {td:ByteArray} {ko uo:Value} {ts us:List ByteArray} {tk tv:ByteArray} {l3 l4 l8 l9 l11 l13:Bool} {x3 x4 x8 x9:Value} {W:World}
theorem RJ.lt (h:RJ O w0 td ko uo ts us tk tv l3 l4 l8 l9 l11 l13 x3 x4 x8 x9 W):O<W.heap.size:=lt_of_heap h.box
theorem RJ.drew (h:RJ O w0 td ko uo ts us tk tv l3 l4 l8 l9 l11 l13 x3 x4 x8 x9 W):RJ O w0 td ko uo ts us tk tv l3 l4 l8 l9 l11 l13 x3 x4 x8 x9 W.drew:=
  ⟨h.bel.drew,h.box,ownsRow_block h.kr fun _ _=>rfl,ownsRow_block h.ur fun _ _=>rfl,h.ne,h.s3,h.s8⟩
theorem RJ.build3 (h:RJ O w0 td ko uo ts us tk tv l3 l4 l8 l9 l11 l13 x3 x4 x8 x9 W):RJ O w0 td ko uo ts us tk tv true l4 l8 l9 l11 l13 (.slice (some ⟨W.heap.size,0,none⟩) 1 1) x4 x8 x9 (W.alloc (.cells #[.string tk] 9)):=by
  have hb:=alloc_far' W (.cells #[.string tk] 9)
  exact ⟨h.bel.trans (hb.mono (Nat.le_of_lt h.lt)),(hb.block _ h.lt).trans h.box,h.kr.far hb,h.ur.far hb,h.ne,fun _ _=>⟨_,rfl,heap_alloc_new W _,fun e=>Nat.lt_irrefl _ (h.ur.lt _ e).2⟩,fun e e'=>let ⟨g,h1,h2,h3⟩:=h.s8 e e';⟨g,h1,(hb.block _ (lt_of_heap h2)).trans h2,h3⟩⟩
theorem RJ.build8 (h:RJ O w0 td ko uo ts us tk tv l3 l4 l8 l9 l11 l13 x3 x4 x8 x9 W):RJ O w0 td ko uo ts us tk tv l3 l4 true l9 l11 l13 x3 x4 (.slice (some ⟨W.heap.size,0,none⟩) 1 1) x9 (W.alloc (.cells #[.string tv] 9)):=by
  have hb:=alloc_far' W (.cells #[.string tv] 9)
  exact ⟨h.bel.trans (hb.mono (Nat.le_of_lt h.lt)),(hb.block _ h.lt).trans h.box,h.kr.far hb,h.ur.far hb,h.ne,fun e e'=>let ⟨g,h1,h2,h3⟩:=h.s3 e e';⟨g,h1,(hb.block _ (lt_of_heap h2)).trans h2,h3⟩,fun _ _=>⟨_,rfl,heap_alloc_new W _,fun e=>Nat.lt_irrefl _ (h.kr.lt _ e).2⟩⟩
theorem RJ.app4 {v':Value} {w':World} (h:RJ O w0 td ko uo ts us tk tv l3 false l8 l9 false l13 x3 x4 x8 x9 W) (hown:w'.ownsRow (O+1) 9 1 v' (ts.length+1) (ts.map Value.string++[.string tk])) (hg:W.grownBy w' ko.ownBlock) (hat:v'.ownBlock=ko.ownBlock∨v'.ownBlock=some W.heap.size):
    RJ O w0 td ko uo ts us tk tv l3 true l8 l9 false l13 x3 v' x8 x9 w' where
  bel:=h.bel.grown hg (Nat.le_of_lt h.lt) fun k hk=>Nat.le_of_succ_le (h.kr.lt k hk).1
  box:=(hg.block O h.lt fun e=>by have:=(h.kr.lt O e.symm).1;omega).trans h.box
  kr:=SRow.snoc hown
  ur:=ownsRow_block h.ur fun g e=>hg.block g (h.ur.lt g e).2 fun e'=>h.ne g e'.symm e
  ne:=fun g e e'=>by
    rcases hat with q | q
    · exact h.ne g (q.symm.trans e) e'
    · obtain rfl:=Option.some.inj (q.symm.trans e)
      exact Nat.lt_irrefl _ (h.ur.lt _ e').2
  s3:=fun _ e=>by cases e
  s8:=fun e e'=>let ⟨g,h1,h2,h3⟩:=h.s8 e e';⟨g,h1,(hg.block _ (lt_of_heap h2) fun q=>h3 q.symm).trans h2,fun q=>by
    rcases hat with q' | q'
    · exact h3 (q'.symm.trans q)
    · have hq:some W.heap.size=some g:=q'.symm.trans q
      obtain rfl:=Option.some.inj hq
      exact Nat.lt_irrefl _ (lt_of_heap h2)⟩
theorem RJ.app9 {v':Value} {w':World} (h:RJ O w0 td ko uo ts us tk tv l3 l4 l8 false l11 false x3 x4 x8 x9 W) (hown:w'.ownsRow (O+1) 9 1 v' (us.length+1) (us.map Value.string++[.string tv])) (hg:W.grownBy w' uo.ownBlock) (hat:v'.ownBlock=uo.ownBlock∨v'.ownBlock=some W.heap.size):
    RJ O w0 td ko uo ts us tk tv l3 l4 l8 true l11 false x3 x4 x8 v' w' where
  bel:=h.bel.grown hg (Nat.le_of_lt h.lt) fun k hk=>Nat.le_of_succ_le (h.ur.lt k hk).1
  box:=(hg.block O h.lt fun e=>by have:=(h.ur.lt O e.symm).1;omega).trans h.box
  kr:=ownsRow_block h.kr fun g e=>hg.block g (h.kr.lt g e).2 fun e'=>h.ne g e e'.symm
  ur:=SRow.snoc hown
  ne:=fun g e e'=>by
    rcases hat with q | q
    · exact h.ne g e (q.symm.trans e')
    · have hq:some W.heap.size=some g:=q.symm.trans e'
      obtain rfl:=Option.some.inj hq
      exact Nat.lt_irrefl _ (h.kr.lt _ e).2
  s3:=fun e e'=>let ⟨g,h1,h2,h3⟩:=h.s3 e e';⟨g,h1,(hg.block _ (lt_of_heap h2) fun q=>h3 q.symm).trans h2,fun q=>by
    rcases hat with q' | q'
    · exact h3 (q'.symm.trans q)
    · have hq:some W.heap.size=some g:=q'.symm.trans q
      obtain rfl:=Option.some.inj hq
      exact Nat.lt_irrefl _ (lt_of_heap h2)⟩
  s8:=fun _ e=>by cases e
theorem RJ.setO (h:RJ O w0 td ko uo ts us tk tv l3 l4 l8 l9 l11 l13 x3 x4 x8 x9 W) (j:Nat) (u:Value) (l11' l13':Bool) (hb:(W.setCell ⟨O,j,none⟩ u).heap[O]? =some (.cells #[.int .i64 4,.bool false,.string td,bif l11' then x4 else ko,bif l13' then x9 else uo] 24 (0,0))):
    RJ O w0 td ko uo ts us tk tv l3 l4 l8 l9 l11' l13' x3 x4 x8 x9 (W.setCell ⟨O,j,none⟩ u) where
  bel:=h.bel.setCell (p:=⟨O,j,none⟩) (Nat.le_refl _) _
  box:=hb
  kr:=ownsRow_block h.kr fun g e=>Below.heap_setCell _ _ _ _ (by have:=(h.kr.lt g e).1;show g≠O;omega)
  ur:=ownsRow_block h.ur fun g e=>Below.heap_setCell _ _ _ _ (by have:=(h.ur.lt g e).1;show g≠O;omega)
  ne:=h.ne
  s3:=fun e e'=>let ⟨g,h1,h2,h3⟩:=h.s3 e e';⟨g,h1,(Below.heap_setCell _ _ _ _ (fun q=>by
    have q':g=O:=q
    subst q'
    have:=h.box.symm.trans h2
    injection Option.some.inj this with _ e2 _
    exact absurd e2 (by decide))).trans h2,h3⟩
  s8:=fun e e'=>let ⟨g,h1,h2,h3⟩:=h.s8 e e';⟨g,h1,(Below.heap_setCell _ _ _ _ (fun q=>by
    have q':g=O:=q
    subst q'
    have:=h.box.symm.trans h2
    injection Option.some.inj this with _ e2 _
    exact absurd e2 (by decide))).trans h2,h3⟩
theorem RJ.store3 {v:Value} (e:x4=v) (h:RJ O w0 td ko uo ts us tk tv l3 l4 l8 l9 l11 l13 x3 x4 x8 x9 W):RJ O w0 td ko uo ts us tk tv l3 l4 l8 l9 true l13 x3 x4 x8 x9 (W.setCell ⟨O,3,none⟩ v):=by
  subst e
  exact h.setO 3 x4 true l13 (by have:=heap_set h.box 3 x4;exact this)
theorem RJ.store4 {v:Value} (e:x9=v) (h:RJ O w0 td ko uo ts us tk tv l3 l4 l8 l9 l11 l13 x3 x4 x8 x9 W):RJ O w0 td ko uo ts us tk tv l3 l4 l8 l9 l11 true x3 x4 x8 x9 (W.setCell ⟨O,4,none⟩ v):=by
  subst e
  exact h.setO 4 x9 l11 true (by have:=heap_set h.box 4 x9;exact this)
end
end Go.Proofs.YtpkfnnkbfphfbaaGreatDoor.Se
/- The reference's Store at arrays. -/
namespace Go.Proofs.YtpkfnnkbfphfbaaGreatDoor.Se
open Go.RowKit Nmx

def OutA (O:Nat) (w0:World) (td:ByteArray) (acc:Arx.L) (W:World):Prop:=
  Below O w0 W∧∃k u,W.heap[O]? =some (.cells #[.int .i64 4,.bool false,.string td,k,u] 24 (0,0))∧SRow (O+1) W k (kT acc)∧SRow (O+1) W u (vT acc)∧∀g,k.ownBlock=some g→u.ownBlock≠some g
theorem OutA.far {O:Nat} {w0:World} {td:ByteArray} {acc:Arx.L} {W W':World} (h:OutA O w0 td acc W) (hb:Below W.heap.size W W'):OutA O w0 td acc W':=by
  obtain ⟨h1,k,u,h2,h3,h4,h5⟩:=h
  exact ⟨h1.trans (hb.mono (Nat.le_of_lt (lt_of_heap h2))),k,u,(hb.block _ (lt_of_heap h2)).trans h2,h3.far hb,h4.far hb,h5⟩
theorem OutA.rj {O:Nat} {w0:World} {td tk tv:ByteArray} {acc:Arx.L} {ko uo:Value} {W:World} {x3 x4 x8 x9:Value} (h1:Below O w0 W) (h2:W.heap[O]? =some (.cells #[.int .i64 4,.bool false,.string td,ko,uo] 24 (0,0))) (h3:SRow (O+1) W ko (kT acc)) (h4:SRow (O+1) W uo (vT acc)) (h5:∀g,ko.ownBlock=some g→uo.ownBlock≠some g):
    RJ O w0 td ko uo (kT acc) (vT acc) tk tv false false false false false false x3 x4 x8 x9 W:=
  ⟨h1,h2,h3,h4,h5,(fun e=>by cases e),(fun e=>by cases e)⟩
theorem RJ.out {O:Nat} {w0:World} {td:ByteArray} {acc:Arx.L} {ko uo:Value} {W:World} {x3 x4 x8 x9:Value} {a b:Int} (h:RJ O w0 td ko uo (kT acc) (vT acc) (TI a) (TI b) true true true true true true x3 x4 x8 x9 W):OutA O w0 td (acc++[(a,b)]) W:=
  ⟨h.bel,x4,x9,h.box,by have:=h.kr;simpa [kT] using this,by have:=h.ur;simpa [vT] using this,h.ne⟩
theorem rs_step (d x v:Int) (pu:Bool) (l:Arx.L) (i:Nat) (h:i<l.length) (acc st:Arx.L) (q:Bool) (hq:(!pu && decide (x≤l[i].1))=q) (hac:acc++Arx.rsA d x v pu (l.drop i)=st):
    ((acc++if q=true then (if v=d then [] else [(x,v)]) else [])++if l[i].1=x then [] else [l[i]])++Arx.rsA d x v (pu || q) (l.drop (i+1))=st:=by
  rw[List.drop_eq_getElem_cons h,Arx.rsA] at hac
  subst hq
  rw[←hac]
  cases pu <;> simp
theorem rs_end (d x v:Int) (pu:Bool) (l:Arx.L) (i:Nat) (h:l.length=i) (acc st:Arx.L) (q:Bool) (hq:(!pu && true)=q) (hac:acc++Arx.rsA d x v pu (l.drop i)=st):
    (acc++if q=true then (if v=d then [] else [(x,v)]) else [])=st:=by
  rw[List.drop_of_length_le (by omega),Arx.rsA] at hac
  subst hq
  rw[←hac]
  cases pu <;> simp
theorem cI_le (a x:Int):(0≤cI a x) ↔ x≤a:=by
  unfold cI
  split
  · omega
  · split <;> omega
section
theorem refStore_av {d x v:Int} {l:Arx.L} {k u:Value} (w:World) (h:AR w d l k u) (hx:Sm x) (hv:Sm v) (hl:l.length<500):
    Calls Tryz.prog 19 #[valV 4 false (TI d) k u,.string (TI x),.string (TI v)] w fun e w'=>∃k' u',e=.returned (.tuple #[valV 4 false (TI d) k' u',.int .i64 0])∧AV w.heap.size w' d (Arx.stA d l x v) k' u'∧Below w.heap.size w w':=by
  obtain ⟨i0,hi,hz0,hz1,hz2⟩:=info_parts infoStr2
  have hA:=alloc_far' w (.cells #[.int .i64 4,.bool false,.string (TI d),k,u] 24)
  have hA2:=alloc_far' (w.alloc (.cells #[.int .i64 4,.bool false,.string (TI d),k,u] 24)) (.cells #[.int .i64 0,.bool false,.string ⟨#[]⟩,.slice none 0 0,.slice none 0 0] 24)
  have b1:=(hA2.block _ (lt_of_heap (heap_alloc_new w (.cells #[.int .i64 4,.bool false,.string (TI d),k,u] 24)))).trans (heap_alloc_new w (.cells #[.int .i64 4,.bool false,.string (TI d),k,u] 24))
  have b2:=heap_alloc_new (w.alloc (.cells #[.int .i64 4,.bool false,.string (TI d),k,u] 24)) (.cells #[.int .i64 0,.bool false,.string ⟨#[]⟩,.slice none 0 0,.slice none 0 0] 24)
  rw[show (w.alloc (.cells #[.int .i64 4,.bool false,.string (TI d),k,u] 24)).heap.size=w.heap.size+1 by simp] at b2
  have hB:=hA.trans (hA2.mono hA.size)
  have HVA:=Lib.hid fun (W:World) (hW:Below w.heap.size w W)=>refValid_av W (h.far hW)
  have HIX:=Lib.hid fun (W:World)=>refIsIntI hx W
  have HIV:=Lib.hid fun (W:World)=>refIsIntI hv W
  have HCM:=Lib.hid (fun (i:Nat) (hi:i<l.length) (W:World)=>refCmpI (r:=cI l[i].1 x) (h.sl _ (List.getElem_mem hi)).1 hx W rfl)
  have HNK:=Lib.hid (fun (i:Nat) (hi:i<l.length)=>ti_eq l[i].1 x)
  have hvd:=ti_eq v d
  have HAV:=Lib.hid h
  have HSX:=Lib.hid (And.intro hx hv)
  have HB:=Lib.hid hB
  have HX1:=Lib.hid b1
  have HX2:=Lib.hid b2
  obtain ⟨ak,ck,au,cu,rfl,rfl⟩:=h.form
  obtain ⟨n,hn⟩:∃n,l.length=n:=⟨_,rfl⟩
  have HN:=Lib.hid hn
  rw[hn] at hl
  unfold valV at HVA ⊢
  rw[hn] at HVA HX1 HX2 HB ⊢
  obtain ⟨td,htd⟩:∃t,TI d=t:=⟨_,rfl⟩
  obtain ⟨tx,htx⟩:∃t,TI x=t:=⟨_,rfl⟩
  obtain ⟨tv,htv⟩:∃t,TI v=t:=⟨_,rfl⟩
  have HTD:=Lib.hid htd
  have HTX:=Lib.hid htx
  have HTV:=Lib.hid htv
  simp only[htd] at HVA HX1 HX2 HB hvd ⊢
  simp only[htx] at HIX HCM HNK ⊢
  simp only[htv] at HIV hvd ⊢
  clear hA hA2 b1 b2 hB h htd htx htv hn hx hv
  go_enter Tryz.func19,Tryz.ntmps19
  go_wp2_with fail
  generalize hw1:World.alloc (World.alloc _ _) _=w1 at *
  refine (HVA.out _ HB.out).mono ?_
  rintro e w2 ⟨rfl,hb⟩
  have HX3:=Lib.hid ((hb.block _ (lt_of_heap HX1.out)).trans HX1.out)
  have HX4:=Lib.hid ((hb.block _ (lt_of_heap HX2.out)).trans HX2.out)
  have HB2:=Lib.hid (HB.out.trans (hb.mono HB.out.size))
  clear hb HX1 HX2 HB hw1 HVA
  go_wp2_with fail
  refine (HIX.out _).mono ?_
  rintro e w3 ⟨rfl,hb⟩
  have HX5:=Lib.hid ((hb.block _ (lt_of_heap HX3.out)).trans HX3.out)
  have HX6:=Lib.hid ((hb.block _ (lt_of_heap HX4.out)).trans HX4.out)
  have HB3:=Lib.hid (HB2.out.trans (hb.mono HB2.out.size))
  clear hb HX3 HX4 HB2 HIX
  go_wp2_with fail
  refine (HIV.out _).mono ?_
  rintro e w4 ⟨rfl,hb⟩
  have HX7:=Lib.hid ((hb.block _ (lt_of_heap HX5.out)).trans HX5.out)
  have HX8:=Lib.hid ((hb.block _ (lt_of_heap HX6.out)).trans HX6.out)
  have HB4:=Lib.hid (HB3.out.trans (hb.mono HB3.out.size))
  clear hb HX5 HX6 HB3 HIV
  have y0:=heap_cell HX7.out 0
  have y2:=heap_cell HX7.out 2
  have ha:=alloc_far' w4 (.cells #[.int .i64 4,.bool false,.string td,.slice none 0 0,.slice none 0 0] 24)
  have hx8:=heap_alloc_new w4 (.cells #[.int .i64 4,.bool false,.string td,.slice none 0 0,.slice none 0 0] 24)
  have HOUT:Hid (OutA w4.heap.size w4 td [] (w4.alloc (.cells #[.int .i64 4,.bool false,.string td,.slice none 0 0,.slice none 0 0] 24))):=Lib.hid ⟨ha,_,_,hx8,World.ownsRow_nil _ _ _ _,World.ownsRow_nil _ _ _ _,fun g e=>by cases e⟩
  have HLT:Hid (w.heap.size+1<w4.heap.size):=Lib.hid (lt_of_heap HX8.out)
  go_upto_region 4 with fail
  clear y0 y2 ha hx8
  generalize hw5:w4.alloc _=w5 at *
  generalize hO:w4.heap.size=O at *
  have HO:=Lib.hid hO
  clear hw5 hO
  go_wp2_with fail
  go_loopw [9,10] (fun v9 v10 wr=>∃(i:Nat) (pu:Bool) (acc:Arx.L),i≤n+1∧v10=.int .i64 (i:Nat)∧v9=.bool pu∧(i≤n→acc++Arx.rsA d x v pu (l.drop i)=Arx.stA d l x v)∧(i=n+1→acc=Arx.stA d l x v)∧acc.length≤2*i∧OutA O w4 td acc wr) (fun _ v _=>n+1-(intOf v).toNat)
  case atStart=>exact ⟨0,false,[],Nat.zero_le _,rfl,rfl,fun _=>Arx.rs_st HAV.out.vd,fun e=>by omega,Nat.zero_le _,HOUT.out⟩
  case round=>
    obtain ⟨i,pu,acc,hin,rfl,rfl,hac,hfin,hal,hout⟩:=hrel
    have hX:=(hout.1.block _ (by have:=HLT.out;have:=HO.out;omega)).trans HX7.out
    have y3:=heap_cell hX 3
    by_cases hle:i≤n
    · have hle':(i:Int)≤(n:Int):=by omega
      have HAC:=Lib.hid (hac hle)
      have HOUT2:=Lib.hid hout
      have hbw:Below O w4 wr:=hout.1
      have HAL:=Lib.hid hal
      have y2:=heap_cell hX 2
      have y4:=heap_cell hX 4
      clear hac hfin hout hal
      go_upto_region 8 with fail
      have HIL:Hid (i<n→i<l.length):=Lib.hid fun h=>by rw[HN.out];exact h
      obtain ⟨q,hq⟩:∃q:Bool,(!pu && (match l[i]? with | none=>true | some p=>decide (x≤p.1)))=q:=⟨_,rfl⟩
      have HQ:=Lib.hid hq
      clear hq
      go_cut [60] from 42 to 61 (fun c wx=>c=.bool q∧OutA O w4 td acc wx)
      case first=>
        cases pu with
        | true=>
          go_wp2_with fail
          go_meet
          case rel=>exact ⟨by rw[←HQ.out];rfl,HOUT2.out⟩
        | false=>
          by_cases hen:i=n
          · subst hen
            have hno:l[i]? =none:=List.getElem?_eq_none (by rw[HN.out];exact Nat.le_refl _)
            have hq:q=true:=by rw[←HQ.out,hno];rfl
            clear hno
            go_wp2_with fail
            go_meet
            case rel=>exact ⟨by rw[hq],HOUT2.out⟩
          · have hlt:i<n:=by omega
            have hlt':(i:Int)<(n:Int):=by omega
            have hne:¬(i:Int)=(n:Int):=by omega
            have hil:=HIL.out hlt
            obtain ⟨g1,o1,c9,g2,o2,c8,e1,e2,hk,-⟩:=(HAV.out.far (HB4.out.trans (hbw.mono (by have:=HLT.out;omega)))).cell hil
            rw[HN.out] at e1
            obtain ⟨rfl,-,rfl⟩:=Value.slice.inj e1
            have hcm:=HCM.out i hil
            have hq:q=decide (x≤l[i].1):=by rw[←HQ.out,List.getElem?_eq_getElem hil];rfl
            obtain ⟨tk,htk⟩:∃t,TI l[i].1=t:=⟨_,rfl⟩
            rw[htk] at hk hcm
            clear e1 e2 htk
            have hcq:=cI_le l[i].1 x
            generalize cI l[i].1 x=cc at *
            go_wp2_with fail
            refine (hcm wr).mono ?_
            rintro e w6 ⟨rfl,hb⟩
            have HO6:=Lib.hid (HOUT2.out.far hb)
            clear hb hk hcm
            go_wp2_with fail
            go_meet
            case rel=>exact ⟨by rw[hq];simp;intro h;omega,HO6.out⟩
      case rest=>
        obtain ⟨rfl,hout⟩:=hcut
        clear y2 y3 y4 hbw hX
        have hX:=(hout.1.block _ (by have:=HLT.out;have:=HO.out;omega)).trans HX7.out
        have y2:=heap_cell hX 2
        have HOUT3:=Lib.hid hout
        clear hX hout HOUT2
        go_upto_if 60 with fail
        go_cut [9] from 61 to 77 (fun c wx=>∃(acc':Arx.L),c=.bool (pu || q)∧acc'=acc++(if q=true then (if v=d then [] else [(x,v)]) else [])∧OutA O w4 td acc' wx)
        case first=>
          cases q with
          | false=>
            go_wp2_with fail
            go_meet
            case rel=>exact ⟨acc,by simp,by simp,HOUT3.out⟩
          | true=>
            by_cases hvd0:v=d
            · rw[decide_eq_true hvd0] at hvd
              have HV:=Lib.hid hvd0
              clear hvd0
              go_wp2_with fail
              go_meet
              case rel=>exact ⟨acc,by simp,by simp[HV.out],HOUT3.out⟩
            · rw[decide_eq_false hvd0] at hvd
              have HV:Hid (¬v=d):=Lib.hid hvd0
              obtain ⟨hbel,ko,uo,hbx,hkr,hur,hnn⟩:=HOUT3.out
              have HRJ:=Lib.hid fun (x3 x4 x8 x9:Value)=>OutA.rj (tk:=tx) (tv:=tv) (x3:=x3) (x4:=x4) (x8:=x8) (x9:=x9) hbel hbx hkr hur hnn
              have HLA:Hid (acc.length≤5000):=Lib.hid (by have:=HAL.out;omega)
              obtain ⟨a1,m1,c1,rfl⟩:=hkr.sl3
              obtain ⟨a2,m2,c2,rfl⟩:=hur.sl3
              clear hvd0 hbel hbx hkr hur hnn
              go_upto_region 11 with fail
              clear y2 hvd
              refine inv_region [[],[0],[],[2],[0,1,2,3],[],[5],[],[7],[0,1,2,3,4,5,6,7,8],[0,1,2,3,4,5,6],[0,1,2,3,4,5,6,7,8,9,10],[0,1,2,3,4,5,6,7,8,9,10,11],[0,1,2,3,4,5,6,7,8,9,10,11,12]] (fun y L W=>RJ O w4 td (.slice a1 m1 c1) (.slice a2 m2 c2) (kT acc) (vT acc) tx tv (L 3) (L 4) (L 8) (L 9) (L 11) (L 13) (y 3) (y 4) (y 8) (y 9) W) ?_
              apply j_con
              · intro y;go_simp;done
              · intro y L W R hJ h1 h2 h3 hR
                unfold addAt
                go_simp
                simp only[addUpon]
                exact hR _ hJ
              simp only[Act.put,List.setIfInBounds_toArray,List.set_cons_zero,List.set_cons_succ]
              apply j_con
              · intro y;go_simp;done
              · intro y L W R hJ h1 h2 h3 hR
                have q11:L 11=false:=h3 11 (show (1:Nat)∈([0,1,2,3,4,5,6,7,8,9,10]:List Nat) by decide)
                have hbx:=hJ.box
                rw[q11] at hbx
                have z3:W.cell? ⟨O,3,none⟩=some (.slice a1 m1 c1):=heap_cell hbx 3
                clear hbx
                unfold addAt
                go_simp
                simp only[addUpon]
                exact hR _ hJ
              simp only[Act.put,List.setIfInBounds_toArray,List.set_cons_zero,List.set_cons_succ]
              apply j_con
              · intro y;go_simp;done
              · intro y L W R hJ h1 h2 h3 hR
                unfold addAt
                go_simp
                simp only[addUpon]
                exact hR _ hJ
              simp only[Act.put,List.setIfInBounds_toArray,List.set_cons_zero,List.set_cons_succ]
              apply j_any
              · intro y;go_simp;done
              · intro y L W R hJ h1 h2 h3 hR
                have hB:=Lib.hid (RJ.build3 hJ)
                clear hJ
                unfold addAt
                go_simp
                simp only[addUpon]
                exact hR _ _ hB.out
              simp only[Act.put,List.setIfInBounds_toArray,List.set_cons_zero,List.set_cons_succ,List.length_cons,List.length_nil,Nat.zero_add,Nat.reduceAdd]
              apply j_any
              · intro y;go_simp;done
              · intro y L W R hJ h1 h2 h3 hR
                have q1:L 3=true:=h1 3 (show (3:Nat)∈([0,1,2,3]:List Nat) by decide)
                have q2:L 4=false:=h2
                have q3:L 11=false:=h3 11 (show (4:Nat)∈([0,1,2,3,4,5,6,7,8,9,10]:List Nat) by decide)
                have hJ':=hJ
                rw[q2,q3] at hJ'
                obtain ⟨g0,e1,e2,-⟩:=hJ'.s3 q1 rfl
                rw[e1]
                have hown:=hJ'.kr
                have hlo:=hJ'.lt
                refine addAt_append_at (.tmp 66) (.tmp 68) 22 rfl (O+1) 9 i0 _ 1 16 Tryz.underlying22 hi hz0 hz1 hz2 rfl (by decide) (.slice a1 m1 c1) (kT acc).length ((kT acc).map Value.string) rfl hown ⟨g0,0,none⟩ 1 1 [.string tx] rfl rfl (World.news_of_block (cs:=#[.string tx]) (t:=9) (fr:=(0,0)) e2) (by simp[Value.oneCell']) (by have:=HLA.out;simp[kT];unfold maxLen;omega) (by have:=HLA.out;simp[kT];omega) (by omega) ?_
                intro v' w' hown' hgr hat
                exact hR _ _ (by
                  have hq:=hJ'.app4 hown' hgr hat
                  rw[←q3] at hq
                  exact hq)
              simp only[Act.put,List.setIfInBounds_toArray,List.set_cons_zero,List.set_cons_succ,List.length_cons,List.length_nil,Nat.zero_add,Nat.reduceAdd]
              apply j_con
              · intro y;go_simp;done
              · intro y L W R hJ h1 h2 h3 hR
                unfold addAt
                go_simp
                simp only[addUpon]
                exact hR _ hJ
              simp only[Act.put,List.setIfInBounds_toArray,List.set_cons_zero,List.set_cons_succ]
              apply j_con
              · intro y;go_simp;done
              · intro y L W R hJ h1 h2 h3 hR
                have q13:L 13=false:=h3 13 (show (6:Nat)∈([0,1,2,3,4,5,6,7,8,9,10,11,12]:List Nat) by decide)
                have hbx:=hJ.box
                rw[q13] at hbx
                have z4:W.cell? ⟨O,4,none⟩=some (.slice a2 m2 c2):=heap_cell hbx 4
                clear hbx
                unfold addAt
                go_simp
                simp only[addUpon]
                exact hR _ hJ
              simp only[Act.put,List.setIfInBounds_toArray,List.set_cons_zero,List.set_cons_succ]
              apply j_con
              · intro y;go_simp;done
              · intro y L W R hJ h1 h2 h3 hR
                unfold addAt
                go_simp
                simp only[addUpon]
                exact hR _ hJ
              simp only[Act.put,List.setIfInBounds_toArray,List.set_cons_zero,List.set_cons_succ]
              apply j_any
              · intro y;go_simp;done
              · intro y L W R hJ h1 h2 h3 hR
                have hB:=Lib.hid (RJ.build8 hJ)
                clear hJ
                unfold addAt
                go_simp
                simp only[addUpon]
                exact hR _ _ hB.out
              simp only[Act.put,List.setIfInBounds_toArray,List.set_cons_zero,List.set_cons_succ,List.length_cons,List.length_nil,Nat.zero_add,Nat.reduceAdd]
              apply j_any
              · intro y;go_simp;done
              · intro y L W R hJ h1 h2 h3 hR
                have q1:L 8=true:=h1 8 (show (8:Nat)∈([0,1,2,3,4,5,6,7,8]:List Nat) by decide)
                have q2:L 9=false:=h2
                have q3:L 13=false:=h3 13 (show (9:Nat)∈([0,1,2,3,4,5,6,7,8,9,10,11,12]:List Nat) by decide)
                have hJ':=hJ
                rw[q2,q3] at hJ'
                obtain ⟨g0,e1,e2,-⟩:=hJ'.s8 q1 rfl
                rw[e1]
                have hown:=hJ'.ur
                have hlo:=hJ'.lt
                refine addAt_append_at (.tmp 71) (.tmp 73) 22 rfl (O+1) 9 i0 _ 1 16 Tryz.underlying22 hi hz0 hz1 hz2 rfl (by decide) (.slice a2 m2 c2) (vT acc).length ((vT acc).map Value.string) rfl hown ⟨g0,0,none⟩ 1 1 [.string tv] rfl rfl (World.news_of_block (cs:=#[.string tv]) (t:=9) (fr:=(0,0)) e2) (by simp[Value.oneCell']) (by have:=HLA.out;simp[vT];unfold maxLen;omega) (by have:=HLA.out;simp[vT];omega) (by omega) ?_
                intro v' w' hown' hgr hat
                exact hR _ _ (by
                  have hq:=hJ'.app9 hown' hgr hat
                  rw[←q3] at hq
                  exact hq)
              simp only[Act.put,List.setIfInBounds_toArray,List.set_cons_zero,List.set_cons_succ,List.length_cons,List.length_nil,Nat.zero_add,Nat.reduceAdd]
              apply j_con
              · intro y;go_simp;done
              · intro y L W R hJ h1 h2 h3 hR
                unfold addAt
                go_simp
                simp only[addUpon]
                exact hR _ hJ
              simp only[Act.put,List.setIfInBounds_toArray,List.set_cons_zero,List.set_cons_succ]
              apply j_any
              · intro y;go_simp;done
              · intro y L W R hJ h1 h2 h3 hR
                have q1:L 4=true:=h1 4 (show (4:Nat)∈([0,1,2,3,4,5,6,7,8,9,10]:List Nat) by decide)
                have hJ':=hJ
                rw[q1] at hJ'
                have hbx:=hJ'.box
                have z:=heap_cell hbx 3
                have zf:=heap_fz hbx 3
                obtain ⟨c1,c2,c3,c4⟩:∃a n c,y 4=.slice a n c:=(hJ'.kr).sl3
                have HQ:=Lib.hid (RJ.store3 c4 hJ)
                clear hJ hJ' hbx
                rw[c4]
                unfold addAt
                go_simp
                simp only[addUpon]
                exact hR _ _ HQ.out
              simp only[Act.put]
              apply j_con
              · intro y;go_simp;done
              · intro y L W R hJ h1 h2 h3 hR
                unfold addAt
                go_simp
                simp only[addUpon]
                exact hR _ hJ
              simp only[Act.put,List.setIfInBounds_toArray,List.set_cons_zero,List.set_cons_succ]
              apply j_any
              · intro y;go_simp;done
              · intro y L W R hJ h1 h2 h3 hR
                have q1:L 9=true:=h1 9 (show (9:Nat)∈([0,1,2,3,4,5,6,7,8,9,10,11,12]:List Nat) by decide)
                have hJ':=hJ
                rw[q1] at hJ'
                have hbx:=hJ'.box
                have z:=heap_cell hbx 4
                have zf:=heap_fz hbx 4
                obtain ⟨c1,c2,c3,c4⟩:∃a n c,y 9=.slice a n c:=(hJ'.ur).sl3
                have HQ:=Lib.hid (RJ.store4 c4 hJ)
                clear hJ hJ' hbx
                rw[c4]
                unfold addAt
                go_simp
                simp only[addUpon]
                exact hR _ _ HQ.out
              simp only[Act.put]
              refine j_nil (by kernel_rfl) (by kernel_rfl) ((HRJ.out _ _ _ _).drew) ?_
              intro y L W hJ hL
              have hJ2:=hJ
              rw[hL 3 (show 3<14 by decide),hL 4 (show 4<14 by decide),hL 8 (show 8<14 by decide),hL 9 (show 9<14 by decide),hL 11 (show 11<14 by decide),hL 13 (show 13<14 by decide),←HTX.out,←HTV.out] at hJ2
              have HO7:=Lib.hid hJ2.out
              clear hJ hJ2 hL
              go_wp2_with fail
              go_meet
              case rel=>exact ⟨acc++[(x,v)],by simp,by simp[HV.out],HO7.out⟩
        case rest=>
          obtain ⟨acc2,rfl,hac2,hout⟩:=hcut
          clear y2
          have hX:=(hout.1.block _ (by have:=HLT.out;have:=HO.out;omega)).trans HX7.out
          have y3:=heap_cell hX 3
          have hbw:Below O w4 wc:=hout.1
          have HOUT4:=Lib.hid hout
          have HA2:=Lib.hid hac2
          have HL2:Hid (acc2.length≤2*i+1):=Lib.hid (by
            have:=HAL.out
            rw[hac2,List.length_append]
            split
            · split <;> simp <;> omega
            · simp;omega)
          clear hX hout HOUT3 hac2
          by_cases hlt:i<n
          · have hlt':(i:Int)<(n:Int):=by omega
            have hil:=HIL.out hlt
            obtain ⟨g1,o1,c9,g2,o2,c8,e1,e2,-,-⟩:=HAV.out.cell hil
            rw[HN.out] at e1 e2
            obtain ⟨rfl,-,rfl⟩:=Value.slice.inj e1
            obtain ⟨rfl,-,rfl⟩:=Value.slice.inj e2
            clear e1 e2
            have HCW:Hid (∀W,Below O w4 W→W.cell? ⟨g1,o1+i,none⟩=some (.string (TI l[i].1))∧W.cell? ⟨g2,o2+i,none⟩=some (.string (TI l[i].2))):=Lib.hid fun W hW=>by
              obtain ⟨g3,o3,c7,g4,o4,c6,e1,e2,q1,q2⟩:=(HAV.out.far (HB4.out.trans (hW.mono (by have:=HLT.out;omega)))).cell hil
              rw[HN.out] at e1 e2
              obtain ⟨e1,-,-⟩:=Value.slice.inj e1
              obtain ⟨e2,-,-⟩:=Value.slice.inj e2
              obtain ⟨rfl,rfl,-⟩:=Addr.mk.inj (Option.some.inj e1)
              obtain ⟨rfl,rfl,-⟩:=Addr.mk.inj (Option.some.inj e2)
              exact ⟨q1,q2⟩
            have hnk:=HNK.out i hil
            have HST:=Lib.hid (rs_step d x v pu l i hil acc _ q (by have:=HQ.out;rw[List.getElem?_eq_getElem hil] at this;exact this) HAC.out)
            rw[←HA2.out] at HST
            obtain ⟨tk,htk⟩:∃t,TI l[i].1=t:=⟨_,rfl⟩
            obtain ⟨tv2,htv2⟩:∃t,TI l[i].2=t:=⟨_,rfl⟩
            have HTK:=Lib.hid htk
            have HTV2:=Lib.hid htv2
            rw[htk,htv2] at HCW
            rw[htk] at hnk
            have hk:=(HCW.out wc hbw).1
            clear htk htv2 hbw
            by_cases hkx:l[i].1=x
            · rw[decide_eq_true hkx] at hnk
              have HKX:=Lib.hid hkx
              clear hkx
              go_wp2_with fail
              go_roundw
              case rel=>exact ⟨i+1,pu || q,acc2,by omega,by go_num,rfl,fun _=>by have:=HST.out;rw[if_pos HKX.out,List.append_nil] at this;exact this,fun e=>by omega,by have:=HL2.out;omega,HOUT4.out⟩
              case measure=>simp[intOf];omega
            · rw[decide_eq_false hkx] at hnk
              have HKX:Hid (¬l[i].1=x):=Lib.hid hkx
              obtain ⟨hbel,ko,uo,hbx,hkr,hur,hnn⟩:=HOUT4.out
              have HRJ:=Lib.hid fun (x3 x4 x8 x9:Value)=>OutA.rj (tk:=tk) (tv:=tv2) (x3:=x3) (x4:=x4) (x8:=x8) (x9:=x9) hbel hbx hkr hur hnn
              have HLA:Hid (acc2.length≤5000):=Lib.hid (by have:=HL2.out;omega)
              obtain ⟨a1,m1,c1,rfl⟩:=hkr.sl3
              obtain ⟨a2,m2,c2,rfl⟩:=hur.sl3
              have HXB:Hid (w4.heap[w.heap.size]? =some (.cells #[.int .i64 4,.bool false,.string td,.slice (some ⟨g1,o1,none⟩) n ck,.slice (some ⟨g2,o2,none⟩) n cu] 24 (0,0))):=HX7
              have HB3LT:Hid (w.heap.size<O):=Lib.hid (by have:=HLT.out;have:=HO.out;omega)
              clear hkx hbel hbx hkr hur hnn
              go_upto_region 13 with fail
              clear y3 hnk hk
              refine inv_region [[],[0],[],[2],[],[2,3,4],[2,3,4,5],[2,3,4,5,6],[0,1,2,3,4,5,6,7],[],[9],[],[11],[],[11,12,13],[11,12,13,14],[11,12,13,14,15],[0,1,2,3,4,5,6,7,8,9,10,11,12,13,14,15,16],[0,1,2,3,4,5,6,7,8,9,10],[0,1,2,3,4,5,6,7,8,9,10,11,12,13,14,15,16,17,18],[0,1,2,3,4,5,6,7,8,9,10,11,12,13,14,15,16,17,18,19],[0,1,2,3,4,5,6,7,8,9,10,11,12,13,14,15,16,17,18,19,20]] (fun y L W=>RJ O w4 td (.slice a1 m1 c1) (.slice a2 m2 c2) (kT acc2) (vT acc2) tk tv2 (L 7) (L 8) (L 16) (L 17) (L 19) (L 21) (y 7) (y 8) (y 16) (y 17) W) ?_
              apply j_con
              · intro y;go_simp;done
              · intro y L W R hJ h1 h2 h3 hR
                unfold addAt
                go_simp
                simp only[addUpon]
                exact hR _ hJ
              simp only[Act.put,List.setIfInBounds_toArray,List.set_cons_zero,List.set_cons_succ]
              apply j_con
              · intro y;go_simp;done
              · intro y L W R hJ h1 h2 h3 hR
                have q11:L 19=false:=h3 19 (show (1:Nat)∈([0,1,2,3,4,5,6,7,8,9,10,11,12,13,14,15,16,17,18]:List Nat) by decide)
                have hbx:=hJ.box
                rw[q11] at hbx
                have z3:W.cell? ⟨O,3,none⟩=some (.slice a1 m1 c1):=heap_cell hbx 3
                clear hbx
                unfold addAt
                go_simp
                simp only[addUpon]
                exact hR _ hJ
              simp only[Act.put,List.setIfInBounds_toArray,List.set_cons_zero,List.set_cons_succ]
              apply j_con
              · intro y;go_simp;done
              · intro y L W R hJ h1 h2 h3 hR
                have hX:=(hJ.bel.block _ HB3LT.out).trans HXB.out
                have z13:=heap_cell hX 3
                have z14:=heap_cell hX 4
                obtain ⟨z15,z16⟩:=HCW.out W hJ.bel
                clear hX
                unfold addAt
                go_simp
                simp only[addUpon]
                exact hR _ hJ
              simp only[Act.put,List.setIfInBounds_toArray,List.set_cons_zero,List.set_cons_succ]
              apply j_con
              · intro y;go_simp;done
              · intro y L W R hJ h1 h2 h3 hR
                have hX:=(hJ.bel.block _ HB3LT.out).trans HXB.out
                have z13:=heap_cell hX 3
                have z14:=heap_cell hX 4
                obtain ⟨z15,z16⟩:=HCW.out W hJ.bel
                clear hX
                unfold addAt
                go_simp
                simp only[addUpon]
                exact hR _ hJ
              simp only[Act.put,List.setIfInBounds_toArray,List.set_cons_zero,List.set_cons_succ]
              apply j_con
              · intro y;go_simp;done
              · intro y L W R hJ h1 h2 h3 hR
                have hX:=(hJ.bel.block _ HB3LT.out).trans HXB.out
                have z13:=heap_cell hX 3
                have z14:=heap_cell hX 4
                obtain ⟨z15,z16⟩:=HCW.out W hJ.bel
                clear hX
                unfold addAt
                go_simp
                simp only[addUpon]
                exact hR _ hJ
              simp only[Act.put,List.setIfInBounds_toArray,List.set_cons_zero,List.set_cons_succ]
              apply j_con
              · intro y;go_simp;done
              · intro y L W R hJ h1 h2 h3 hR
                have hX:=(hJ.bel.block _ HB3LT.out).trans HXB.out
                have z13:=heap_cell hX 3
                have z14:=heap_cell hX 4
                obtain ⟨z15,z16⟩:=HCW.out W hJ.bel
                clear hX
                unfold addAt
                go_simp
                simp only[addUpon]
                exact hR _ hJ
              simp only[Act.put,List.setIfInBounds_toArray,List.set_cons_zero,List.set_cons_succ]
              apply j_con
              · intro y;go_simp;done
              · intro y L W R hJ h1 h2 h3 hR
                have hX:=(hJ.bel.block _ HB3LT.out).trans HXB.out
                have z13:=heap_cell hX 3
                have z14:=heap_cell hX 4
                obtain ⟨z15,z16⟩:=HCW.out W hJ.bel
                clear hX
                unfold addAt
                go_simp
                simp only[addUpon]
                exact hR _ hJ
              simp only[Act.put,List.setIfInBounds_toArray,List.set_cons_zero,List.set_cons_succ]
              apply j_any
              · intro y;go_simp;done
              · intro y L W R hJ h1 h2 h3 hR
                have hB:=Lib.hid (RJ.build3 hJ)
                clear hJ
                unfold addAt
                go_simp
                simp only[addUpon]
                exact hR _ _ hB.out
              simp only[Act.put,List.setIfInBounds_toArray,List.set_cons_zero,List.set_cons_succ,List.length_cons,List.length_nil,Nat.zero_add,Nat.reduceAdd]
              apply j_any
              · intro y;go_simp;done
              · intro y L W R hJ h1 h2 h3 hR
                have q1:L 7=true:=h1 7 (show (7:Nat)∈([0,1,2,3,4,5,6,7]:List Nat) by decide)
                have q2:L 8=false:=h2
                have q3:L 19=false:=h3 19 (show (8:Nat)∈([0,1,2,3,4,5,6,7,8,9,10,11,12,13,14,15,16,17,18]:List Nat) by decide)
                have hJ':=hJ
                rw[q2,q3] at hJ'
                obtain ⟨g0,e1,e2,-⟩:=hJ'.s3 q1 rfl
                rw[e1]
                have hown:=hJ'.kr
                have hlo:=hJ'.lt
                refine addAt_append_at (.tmp 92) (.tmp 98) 22 rfl (O+1) 9 i0 _ 1 16 Tryz.underlying22 hi hz0 hz1 hz2 rfl (by decide) (.slice a1 m1 c1) (kT acc2).length ((kT acc2).map Value.string) rfl hown ⟨g0,0,none⟩ 1 1 [.string tk] rfl rfl (World.news_of_block (cs:=#[.string tk]) (t:=9) (fr:=(0,0)) e2) (by simp[Value.oneCell']) (by have:=HLA.out;simp[kT];unfold maxLen;omega) (by have:=HLA.out;simp[kT];omega) (by omega) ?_
                intro v' w' hown' hgr hat
                exact hR _ _ (by
                  have hq:=hJ'.app4 hown' hgr hat
                  rw[←q3] at hq
                  exact hq)
              simp only[Act.put,List.setIfInBounds_toArray,List.set_cons_zero,List.set_cons_succ,List.length_cons,List.length_nil,Nat.zero_add,Nat.reduceAdd]
              apply j_con
              · intro y;go_simp;done
              · intro y L W R hJ h1 h2 h3 hR
                unfold addAt
                go_simp
                simp only[addUpon]
                exact hR _ hJ
              simp only[Act.put,List.setIfInBounds_toArray,List.set_cons_zero,List.set_cons_succ]
              apply j_con
              · intro y;go_simp;done
              · intro y L W R hJ h1 h2 h3 hR
                have q13:L 21=false:=h3 21 (show (10:Nat)∈([0,1,2,3,4,5,6,7,8,9,10,11,12,13,14,15,16,17,18,19,20]:List Nat) by decide)
                have hbx:=hJ.box
                rw[q13] at hbx
                have z4:W.cell? ⟨O,4,none⟩=some (.slice a2 m2 c2):=heap_cell hbx 4
                clear hbx
                unfold addAt
                go_simp
                simp only[addUpon]
                exact hR _ hJ
              simp only[Act.put,List.setIfInBounds_toArray,List.set_cons_zero,List.set_cons_succ]
              apply j_con
              · intro y;go_simp;done
              · intro y L W R hJ h1 h2 h3 hR
                have hX:=(hJ.bel.block _ HB3LT.out).trans HXB.out
                have z13:=heap_cell hX 3
                have z14:=heap_cell hX 4
                obtain ⟨z15,z16⟩:=HCW.out W hJ.bel
                clear hX
                unfold addAt
                go_simp
                simp only[addUpon]
                exact hR _ hJ
              simp only[Act.put,List.setIfInBounds_toArray,List.set_cons_zero,List.set_cons_succ]
              apply j_con
              · intro y;go_simp;done
              · intro y L W R hJ h1 h2 h3 hR
                have hX:=(hJ.bel.block _ HB3LT.out).trans HXB.out
                have z13:=heap_cell hX 3
                have z14:=heap_cell hX 4
                obtain ⟨z15,z16⟩:=HCW.out W hJ.bel
                clear hX
                unfold addAt
                go_simp
                simp only[addUpon]
                exact hR _ hJ
              simp only[Act.put,List.setIfInBounds_toArray,List.set_cons_zero,List.set_cons_succ]
              apply j_con
              · intro y;go_simp;done
              · intro y L W R hJ h1 h2 h3 hR
                have hX:=(hJ.bel.block _ HB3LT.out).trans HXB.out
                have z13:=heap_cell hX 3
                have z14:=heap_cell hX 4
                obtain ⟨z15,z16⟩:=HCW.out W hJ.bel
                clear hX
                unfold addAt
                go_simp
                simp only[addUpon]
                exact hR _ hJ
              simp only[Act.put,List.setIfInBounds_toArray,List.set_cons_zero,List.set_cons_succ]
              apply j_con
              · intro y;go_simp;done
              · intro y L W R hJ h1 h2 h3 hR
                have hX:=(hJ.bel.block _ HB3LT.out).trans HXB.out
                have z13:=heap_cell hX 3
                have z14:=heap_cell hX 4
                obtain ⟨z15,z16⟩:=HCW.out W hJ.bel
                clear hX
                unfold addAt
                go_simp
                simp only[addUpon]
                exact hR _ hJ
              simp only[Act.put,List.setIfInBounds_toArray,List.set_cons_zero,List.set_cons_succ]
              apply j_con
              · intro y;go_simp;done
              · intro y L W R hJ h1 h2 h3 hR
                have hX:=(hJ.bel.block _ HB3LT.out).trans HXB.out
                have z13:=heap_cell hX 3
                have z14:=heap_cell hX 4
                obtain ⟨z15,z16⟩:=HCW.out W hJ.bel
                clear hX
                unfold addAt
                go_simp
                simp only[addUpon]
                exact hR _ hJ
              simp only[Act.put,List.setIfInBounds_toArray,List.set_cons_zero,List.set_cons_succ]
              apply j_any
              · intro y;go_simp;done
              · intro y L W R hJ h1 h2 h3 hR
                have hB:=Lib.hid (RJ.build8 hJ)
                clear hJ
                unfold addAt
                go_simp
                simp only[addUpon]
                exact hR _ _ hB.out
              simp only[Act.put,List.setIfInBounds_toArray,List.set_cons_zero,List.set_cons_succ,List.length_cons,List.length_nil,Nat.zero_add,Nat.reduceAdd]
              apply j_any
              · intro y;go_simp;done
              · intro y L W R hJ h1 h2 h3 hR
                have q1:L 16=true:=h1 16 (show (16:Nat)∈([0,1,2,3,4,5,6,7,8,9,10,11,12,13,14,15,16]:List Nat) by decide)
                have q2:L 17=false:=h2
                have q3:L 21=false:=h3 21 (show (17:Nat)∈([0,1,2,3,4,5,6,7,8,9,10,11,12,13,14,15,16,17,18,19,20]:List Nat) by decide)
                have hJ':=hJ
                rw[q2,q3] at hJ'
                obtain ⟨g0,e1,e2,-⟩:=hJ'.s8 q1 rfl
                rw[e1]
                have hown:=hJ'.ur
                have hlo:=hJ'.lt
                refine addAt_append_at (.tmp 101) (.tmp 107) 22 rfl (O+1) 9 i0 _ 1 16 Tryz.underlying22 hi hz0 hz1 hz2 rfl (by decide) (.slice a2 m2 c2) (vT acc2).length ((vT acc2).map Value.string) rfl hown ⟨g0,0,none⟩ 1 1 [.string tv2] rfl rfl (World.news_of_block (cs:=#[.string tv2]) (t:=9) (fr:=(0,0)) e2) (by simp[Value.oneCell']) (by have:=HLA.out;simp[vT];unfold maxLen;omega) (by have:=HLA.out;simp[vT];omega) (by omega) ?_
                intro v' w' hown' hgr hat
                exact hR _ _ (by
                  have hq:=hJ'.app9 hown' hgr hat
                  rw[←q3] at hq
                  exact hq)
              simp only[Act.put,List.setIfInBounds_toArray,List.set_cons_zero,List.set_cons_succ,List.length_cons,List.length_nil,Nat.zero_add,Nat.reduceAdd]
              apply j_con
              · intro y;go_simp;done
              · intro y L W R hJ h1 h2 h3 hR
                unfold addAt
                go_simp
                simp only[addUpon]
                exact hR _ hJ
              simp only[Act.put,List.setIfInBounds_toArray,List.set_cons_zero,List.set_cons_succ]
              apply j_any
              · intro y;go_simp;done
              · intro y L W R hJ h1 h2 h3 hR
                have q1:L 8=true:=h1 8 (show (8:Nat)∈([0,1,2,3,4,5,6,7,8,9,10,11,12,13,14,15,16,17,18]:List Nat) by decide)
                have hJ':=hJ
                rw[q1] at hJ'
                have hbx:=hJ'.box
                have z:=heap_cell hbx 3
                have zf:=heap_fz hbx 3
                obtain ⟨c1,c2,c3,c4⟩:∃a n c,y 8=.slice a n c:=(hJ'.kr).sl3
                have HQ:=Lib.hid (RJ.store3 c4 hJ)
                clear hJ hJ' hbx
                rw[c4]
                unfold addAt
                go_simp
                simp only[addUpon]
                exact hR _ _ HQ.out
              simp only[Act.put]
              apply j_con
              · intro y;go_simp;done
              · intro y L W R hJ h1 h2 h3 hR
                unfold addAt
                go_simp
                simp only[addUpon]
                exact hR _ hJ
              simp only[Act.put,List.setIfInBounds_toArray,List.set_cons_zero,List.set_cons_succ]
              apply j_any
              · intro y;go_simp;done
              · intro y L W R hJ h1 h2 h3 hR
                have q1:L 17=true:=h1 17 (show (17:Nat)∈([0,1,2,3,4,5,6,7,8,9,10,11,12,13,14,15,16,17,18,19,20]:List Nat) by decide)
                have hJ':=hJ
                rw[q1] at hJ'
                have hbx:=hJ'.box
                have z:=heap_cell hbx 4
                have zf:=heap_fz hbx 4
                obtain ⟨c1,c2,c3,c4⟩:∃a n c,y 17=.slice a n c:=(hJ'.ur).sl3
                have HQ:=Lib.hid (RJ.store4 c4 hJ)
                clear hJ hJ' hbx
                rw[c4]
                unfold addAt
                go_simp
                simp only[addUpon]
                exact hR _ _ HQ.out
              simp only[Act.put]
              refine j_nil (by kernel_rfl) (by kernel_rfl) ((HRJ.out _ _ _ _).drew) ?_
              intro y L W hJ hL
              have hJ2:=hJ
              rw[hL 7 (show 7<22 by decide),hL 8 (show 8<22 by decide),hL 16 (show 16<22 by decide),hL 17 (show 17<22 by decide),hL 19 (show 19<22 by decide),hL 21 (show 21<22 by decide),←HTK.out,←HTV2.out] at hJ2
              have HO7:=Lib.hid hJ2.out
              clear hJ hJ2 hL
              go_wp2_with fail
              go_roundw
              case rel=>exact ⟨i+1,pu || q,acc2++[l[i]],by omega,by go_num,rfl,fun _=>by have:=HST.out;rw[if_neg HKX.out] at this;exact this,fun e=>by omega,by have:=HL2.out;simp;omega,HO7.out⟩
              case measure=>simp[intOf];omega
          · obtain rfl:i=n:=by omega
            have hlt':¬(i:Int)<(i:Int):=by omega
            have HST:=Lib.hid (rs_end d x v pu l i HN.out acc _ q (by have:=HQ.out;rw[List.getElem?_eq_none (by rw[HN.out];exact Nat.le_refl _)] at this;exact this) HAC.out)
            rw[←HA2.out] at HST
            clear hbw
            go_wp2_with fail
            go_roundw
            case rel=>exact ⟨i+1,pu || q,acc2,by omega,by go_num,rfl,fun e=>by omega,fun _=>HST.out,by have:=HL2.out;omega,HOUT4.out⟩
            case measure=>simp[intOf]
    · obtain rfl:i=n+1:=by omega
      have hle':¬(((n+1:Nat):Int)≤(n:Int)):=by omega
      obtain rfl:=hfin rfl
      obtain ⟨hbel,ko,uo,hbx,hkr,hur,-⟩:=hout
      obtain ⟨a1,m1,c1,rfl⟩:=hkr.sl3
      obtain ⟨a2,m2,c2,rfl⟩:=hur.sl3
      have z0:=heap_cell hbx 0
      have z1:=heap_cell hbx 1
      have z2:=heap_cell hbx 2
      have z3:=heap_cell hbx 3
      have z4:=heap_cell hbx 4
      have hx8:=(hbel.block _ (show w.heap.size+1<O by have:=HLT.out;have:=HO.out;omega)).trans HX8.out
      have f0:=heap_cell hx8 0
      have f1:=heap_cell hx8 1
      have f2:=heap_cell hx8 2
      have f3:=heap_cell hx8 3
      have f4:=heap_cell hx8 4
      have g0:=heap_fz hx8 0
      have g1:=heap_fz hx8 1
      have g2:=heap_fz hx8 2
      have g3:=heap_fz hx8 3
      have g4:=heap_fz hx8 4
      have HFIN:=Lib.hid (set5 hx8 (.int .i64 4) (.bool false) (.string td) (.slice a1 m1 c1) (.slice a2 m2 c2))
      have HKR:=Lib.hid hkr
      have HUR:=Lib.hid hur
      have HBE:=Lib.hid (HB4.out.trans (hbel.mono (by have:=HLT.out;have:=HO.out;omega)))
      have HOS:Hid (w.heap.size+1<O):=Lib.hid (by have:=HLT.out;have:=HO.out;omega)
      clear hbel hbx hkr hur hx8 hac hX
      go_wp2
      obtain ⟨s1,s2,s3⟩:=HFIN.out
      exact end_val2 (E:=0) rfl rfl rfl rfl ⟨_,_,_,rfl⟩ ⟨_,_,_,rfl⟩ s1 ⟨_,_,rfl,⟨SRow.down (ownsRow_block HKR.out fun g hg=>s2 g (by have:=(HKR.out.lt g hg).1;have:=HOS.out;omega)) (by have:=HOS.out;omega),SRow.down (ownsRow_block HUR.out fun g hg=>s2 g (by have:=(HUR.out.lt g hg).1;have:=HOS.out;omega)) (by have:=HOS.out;omega),HAV.out.vd.st x v,HAV.out.sd,Arx.st_all HAV.out.sl HSX.out.1 HSX.out.2,by have:=Arx.st_len d l x v;have:=HN.out;omega⟩,s3 HBE.out (by omega)⟩
end
end Go.Proofs.YtpkfnnkbfphfbaaGreatDoor.Se

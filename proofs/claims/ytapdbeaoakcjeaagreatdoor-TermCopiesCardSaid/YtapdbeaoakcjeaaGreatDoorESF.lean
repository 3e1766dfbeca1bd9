/- 'add' appends an item to the innermost open list. -/
import Derived.Test.YtapdbeaoakcjeaaGreatDoorESC
import Derived.BigRegion
set_option maxRecDepth 100000
set_option maxHeartbeats 40000000
open Go.Lib (hid)
namespace Go.Proofs.YtapdbeaoakcjeaaGreatDoor.Se
open Go.RowKit
def It.bump (x:It):It:={ x with kids:=x.kids+1 }
def eB (its:List It):Option Nat→List It
 | none=>its
 | some i=>its.modify i It.bump
theorem p9 (l l':List It):hJ (l++l')=hJ l++hJ l':=by simp[hJ]
theorem qa (l:List It):∀(i:Nat) (x:It) (j:Nat),l[i]? =some x→j<4→(hJ l)[i*4+j]? =x.cells[j]? :=by
 induction l with
 | nil=>intro i x j h;simp at h
 | cons a r ih=>
   intro i x j h hj;show (a.cells++hJ r)[i*4+j]? =_;cases i with
   | zero=>
     simp at h;subst h
     rw[List.getElem?_append_left (by simp[It.cells];omega)];congr 1;omega
   | succ i=>
     simp at h
     rw[List.getElem?_append_right (by simp[It.cells];omega)];rw[←ih i x j h hj];congr 1;simp[It.cells];omega
theorem uo (l:List It):∀(i:Nat) (x:It),l[i]? =some x→hJ (l.modify i It.bump)=(hJ l).set (i*4+2) (.int .i64 (x.kids+1)):=by
 induction l with
 | nil=>intro i x h;simp at h
 | cons a r ih=>
   intro i x h;cases i with
   | zero=>simp at h;subst h;rfl
   | succ i=>
     simp at h
     have:=ih i x h;show a.cells++hJ (r.modify i It.bump)=(a.cells++hJ r).set ((i+1)*4+2) _;rw[this,List.set_append_right _ _ (by simp[It.cells];omega)]
     congr 2;simp[It.cells];omega
theorem aS {w:World} {base:Nat} {e:TypeId} {size:Nat} {v:Value} {n:Nat} {xs:List Value} (h:w.ownsRow base e size v n xs) (hn:0<n):∃g cap,v=.slice (some ⟨g,0,none⟩) n cap∧base≤g∧n≤cap∧cap≤maxLen:=by
 obtain ⟨_,h | ⟨g,cap,cur,hv,hb,hh,hn,hc,_⟩⟩:=h
 · omega
 · exact ⟨g,cap,hv,hb,hn,hc⟩
theorem bL {w:World} {base:Nat} {e:TypeId} {size:Nat} {v:Value} {n:Nat} {xs:List Value} (h:w.ownsRow base e size v n xs):∃a cap,v=.slice a n cap:=by
 obtain ⟨_,h | ⟨g,cap,cur,hv,hb,hh,hn,hc,_⟩⟩:=h
 · exact ⟨none,0,by rw[h.1,h.2]⟩
 · exact ⟨_,_,hv⟩
theorem Rd.its {B w s p its op vi vo} (h:Rd B w s p its op vi vo):w.cell? ⟨B,2,none⟩=some vi:=by simp[World.cell?,h.blk]
theorem Rd.ops {B w s p its op vi vo} (h:Rd B w s p its op vi vo):w.cell? ⟨B,3,none⟩=some vo:=by simp[World.cell?,h.blk]
theorem jD (m:Int) (B:Nat) (w0 w:World) (s:ByteArray) (p:Nat) (its:List It) (op:List Nat) (h:Inv m B w0 w s p its op) (hd:256<op.length) (kind q:Int) (text:ByteArray):
    Calls Tryz.prog 131 #[.pointer (some ⟨B,0,none⟩),.int .i64 kind,.string text,.int .i64 q] w fun e w'=>e=.returned (.tuple #[.int .i64 q,.int .i64 6])∧w=w':=by
 obtain ⟨vi,vo,hr⟩:=h.rd;obtain ⟨a,cap,hvo⟩:=bL hr.rowo;have h3:=hr.ops;rw[hvo] at h3;clear hvo hr h
 go_enter Tryz.func131,Tryz.ntmps131
 go_wp2
 go_ret2
 exact ⟨rfl,rfl⟩
theorem qc:(Tryz.prog.info? 88).map (fun i=>(i.zero,i.size,i.bytes))=some (some (.agg #[.int .i64 0,.string ⟨#[]⟩,.int .i64 0,.int .i64 0]),4,40):=by kernel_rfl
theorem infoInt:(Tryz.prog.info? 3).map (fun i=>(i.zero,i.size,i.bytes))=some (some (.int .i64 0),1,8):=by kernel_rfl
theorem Inv.pushed {m B w0 w s p its op} {vi vo:Value} (hr:Rd B w s p its op vi vo) (h:Inv m B w0 w s p its op) (x:It) (o:Obj) {w2:World} {v':Value}
    (hown:w2.ownsRow (B+1) 88 4 v' (its.length+1) (hJ its++x.cells)) (hg:(w.alloc o).grownBy w2 vi.ownBlock):
    Inv m B w0 (w2.setCell ⟨B,2,none⟩ v') s p (its++[x]) op:=by
 have hi:=hr.rowi;have hlt:∀k,vi.ownBlock=some k→B+1≤k∧k<w.heap.size:=hi.lt;have hB:B<(w.alloc o).heap.size:=by have:=h.has;simp;omega
 have hne:some B≠vi.ownBlock:=fun e=>by have:=(hlt B e.symm).1;omega
 have hblk:w2.heap[B]? =some (.cells #[.string s,.int .i64 p,vi,vo] 121 (0,0)):=by
  rw[hg.block B hB hne,←hr.blk];show (w.heap.push o)[B]? =_;rw[Array.getElem?_push,if_neg (Nat.ne_of_lt h.has)]
 have hro:w2.ownsRow (B+1) 3 1 vo op.length (op.map fun n:Nat=>Value.int .i64 n):=by
  refine (hr.rowo.alloc o).kept hg ?_;cases e:vo.ownBlock with
  | none=>exact .inl rfl
  | some g=>exact .inr (fun h2=>eg hr.rowo hr.rowi (by decide) e h2.symm)
 refine ⟨⟨v',vo,?_,?_,?_⟩,?_,?_,h.big,?_⟩
 · simp[World.setCell,Array.getElem?_modify,hblk]
 · have:=ownsRow_setCell_below hown (a:=⟨B,2,none⟩) (by show B<B+1;omega) v';rw[p9,aA]
   simpa [hJ] using this
 · exact ownsRow_setCell_below hro (a:=⟨B,2,none⟩) (by show B<B+1;omega) v'
 · exact ((h.below.alloc (aI h.has) _).grown hg (aI hB) (fun k hk=>by have:=(hlt k hk).1;omega)).setCell (ag B) _
 · have:=hg.size;simp[World.setCell] at this ⊢;have:=h.has;omega
 · rw[World.cell?_setCell_other _ _ _ _ (by simp)];refine hg.cell (a:=⟨0,0,none⟩) ?_ (fun e=>by have:=(hlt 0 e.symm).1;omega);rw[World.cell?_alloc_past _ _ _ (by have:=h.has;show 0<_;omega)];exact h.len
theorem xY (m:Int) (B:Nat) (w0 w:World) (s:ByteArray) (p:Nat) (its:List It) (h:Inv m B w0 w s p its []) (hn:its.length≤65536) (kind q:Int) (text:ByteArray):
    Calls Tryz.prog 131 #[.pointer (some ⟨B,0,none⟩),.int .i64 kind,.string text,.int .i64 q] w fun e w'=>e=.returned (.tuple #[.int .i64 0,.int .i64 0])∧Inv m B w0 w' s p (its++[⟨kind,text,0,q⟩]) []:=by
 obtain ⟨vi,vo,hr⟩:=h.rd;obtain ⟨i,hi,hz0,hz1,hz2⟩:=info_parts qc;obtain ⟨a,cap,hvo⟩:=bL hr.rowo;have h3:=hr.ops;have h2:=hr.its;have f2:=hr.fz 2;rw[hvo] at h3;have hHR:=hid hr;have hH:=hid h;have hrow:=hid hr.rowi;clear hvo hr h
 go_enter Tryz.func131,Tryz.ntmps131
 go_wp2_with (at_builtin;refine wpList_append_own _ rfl (.tmp 49) (.tmp 54) 83 rfl (B+1) 88 i _ 4 40 Tryz.underlying83 hi hz0 hz1 hz2 rfl (by decide) vi its.length _ rfl (hrow.out.alloc _) ⟨w.heap.size,0,none⟩ 1 1 (It.cells ⟨kind,text,0,q⟩) rfl rfl ?c1 ?c2 (by unfold maxLen;omega) (by omega) (by have:=hH.out.has;simp;omega) ?_)
 case c1=>
  intro j u hj
  match j,hj with
  | 0,hj=>simp[It.cells] at hj;subst hj;simp[Addr.add]
  | 1,hj=>simp[It.cells] at hj;subst hj;simp[Addr.add]
  | 2,hj=>simp[It.cells] at hj;subst hj;simp[Addr.add]
  | 3,hj=>simp[It.cells] at hj;subst hj;simp[Addr.add]
 case c2=>intro u hu;simp[It.cells] at hu;rcases hu with rfl | rfl | rfl | rfl <;> rfl
 intro v' w1 hown' hgrow _;obtain ⟨g',cap',rfl,_⟩:=aS hown' (by omega);have hinv:=hid (hH.out.pushed hHR.out ⟨kind,text,0,q⟩ _ hown' hgrow);have hne:some B≠vi.ownBlock:=fun e=>by have:=(hrow.out.lt B e.symm).1;omega
 have hc1:=hgrow.cell (a:=⟨B,2,none⟩) ((World.cell?_alloc_past _ _ _ hH.out.has).trans h2) hne
 have hf1:w1.frozen? ⟨B,2,none⟩=false:=by
  rw[World.frozen?_of_block (hgrow.block B (by have:=hH.out.has;simp;omega) hne)];exact (World.frozen?_alloc_past _ _ _ hH.out.has).trans f2
 clear hne hgrow hown'
 go_wp2
 go_ret2
 exact ⟨rfl,hinv.out⟩
theorem Rd.itCell {B w s p its op vi vo} (h:Rd B w s p its op vi vo) {g cap:Nat} (hv:vi=.slice (some ⟨g,0,none⟩) its.length cap) {i:Nat} {x:It} (hx:its[i]? =some x) (j:Nat) (hj:j<4):w.cell? ⟨g,i*4+j,none⟩=x.cells[j]? :=by
 have hi:=h.rowi;rw[hv] at hi;have hil:i<its.length:=(List.getElem?_eq_some_iff.1 hx).1;rw[hi.cellAt (i*4+j) (by omega),qa its i x j hx hj]
theorem Rd.opCell {B w s p its op vi vo} (h:Rd B w s p its op vi vo) {g cap:Nat} (hv:vo=.slice (some ⟨g,0,none⟩) op.length cap) {j i:Nat} (hx:op[j]? =some i):w.cell? ⟨g,j,none⟩=some (.int .i64 i):=by
 have hi:=h.rowo;rw[hv] at hi;have hil:j<op.length:=(List.getElem?_eq_some_iff.1 hx).1;rw[hi.cellAt j (by omega),List.getElem?_map,hx];rfl
theorem Inv.bumped {m B w0 w s p its op} {vi vo:Value} (hr:Rd B w s p its op vi vo) (h:Inv m B w0 w s p its op) {g cap:Nat} (hv:vi=.slice (some ⟨g,0,none⟩) its.length cap) {i:Nat} {x:It} (hx:its[i]? =some x) (q:Int) (hq:q=x.kids+1):
    Rd B (w.setCell ⟨g,i*4+2,none⟩ (.int .i64 q)) s p (its.modify i It.bump) op vi vo∧Inv m B w0 (w.setCell ⟨g,i*4+2,none⟩ (.int .i64 q)) s p (its.modify i It.bump) op:=by
 subst hq;have hi:=hr.rowi;have hlt:=hi.lt g (by rw[hv];rfl)
 have hrd:Rd B (w.setCell ⟨g,i*4+2,none⟩ (.int .i64 (x.kids+1))) s p (its.modify i It.bump) op vi vo:=by
  refine ⟨?_,?_,?_⟩
  · rw[aB _ _ _ _ (by show B≠g;omega)];exact hr.blk
  · rw[hv] at hi ⊢;rw[List.length_modify,uo its i x hx];exact (hi.stored (i*4+2) _).1
  · refine ownsRow_setCell_other hr.rowo ?_ _;exact eg hi hr.rowo (by decide) (by rw[hv];rfl)
 refine ⟨hrd,⟨⟨vi,vo,hrd⟩,h.below.setCell (by show B≤g;omega) _,?_,h.big,?_⟩⟩
 · simpa [World.setCell] using h.has
 · rw[World.cell?_setCell_other _ _ _ _ (by simp)];exact h.len
theorem yZ (m:Int) (B:Nat) (w0 w:World) (s:ByteArray) (p:Nat) (its:List It) (op':List Nat) (i:Nat) (x:It) (h:Inv m B w0 w s p its (op'++[i])) (hop:op'.length<256) (hx:its[i]? =some x) (hk:0≤x.kids∧x.kids≤65536) (hn:its.length≤65536) (kind q:Int) (text:ByteArray):
    Calls Tryz.prog 131 #[.pointer (some ⟨B,0,none⟩),.int .i64 kind,.string text,.int .i64 q] w fun e w'=>e=.returned (.tuple #[.int .i64 0,.int .i64 0])∧Inv m B w0 w' s p (its.modify i It.bump++[⟨kind,text,0,q⟩]) (op'++[i]):=by
 obtain ⟨vi,vo,hr⟩:=h.rd;obtain ⟨ti,hti,hz0,hz1,hz2⟩:=info_parts qc;have hil:i<its.length:=(List.getElem?_eq_some_iff.1 hx).1;obtain ⟨gi,ci,hvi,hgi,_⟩:=aS hr.rowi (by omega);obtain ⟨go,co,hvo,hgo,_⟩:=aS hr.rowo (by simp);have h3:=hr.ops;have h2:=hr.its;have f2:=hr.fz 2;have hoc:=hr.opCell hvo (j:=op'.length) (i:=i) (by simp);have hic:=hr.itCell hvi hx 2 (by omega);have hif:w.frozen? ⟨gi,i*4+2,none⟩=false:=by have:=hr.rowi;rw[hvi] at this;exact this.frozenAt _
 have hb:=hid (Inv.bumped hr h hvi hx);have hHas:=h.has;simp only[It.cells,List.getElem?_cons_succ,List.getElem?_cons_zero] at hic;rw[aA,aK] at hvo;rw[hvo] at h3;rw[hvi] at h2;obtain ⟨k0,k1⟩:=hk;have hle:op'.length+1≤256:=hop;clear hr h hvo hop hx
 go_enter Tryz.func131,Tryz.ntmps131
 go_wp2_with fail
 go_region
 obtain ⟨hrd1,hinv1⟩:=hb.out (x.kids+1) rfl;have hinv2:=hinv1.drew;have hrd2:Rd B (w.setCell ⟨gi,i*4+2,none⟩ (.int .i64 (x.kids+1))).drew s p (its.modify i It.bump) (op'++[i]) vi vo:=⟨hrd1.blk,hrd1.rowi,hrd1.rowo⟩
 clear hb hrd1 hinv1 h3 h2 f2 hoc hic hif hHas;generalize hW:(w.setCell ⟨gi,i*4+2,none⟩ (.int .i64 (x.kids+1))).drew=wz at *;clear hW hvi;have h2:=hrd2.its;have f2:=hrd2.fz 2;have hHR:=hid hrd2;have hH:=hid hinv2;have hrow:=hid hrd2.rowi;have hnl:(its.modify i It.bump).length≤65536:=by rw[List.length_modify];exact hn
 clear hrd2 hinv2;generalize hits:its.modify i It.bump=its2 at *;have HE:=hid hits;clear hits
 go_wp2_with (at_builtin;refine wpList_append_own _ rfl (.tmp 49) (.tmp 54) 83 rfl (B+1) 88 ti _ 4 40 Tryz.underlying83 hti hz0 hz1 hz2 rfl (by decide) vi its2.length _ rfl (hrow.out.alloc _) ⟨wz.heap.size,0,none⟩ 1 1 (It.cells ⟨kind,text,0,q⟩) rfl rfl ?c1 ?c2 (by unfold maxLen;omega) (by omega) (by have:=hH.out.has;simp;omega) ?_)
 case c1=>
  intro j u hj
  match j,hj with
  | 0,hj=>simp[It.cells] at hj;subst hj;simp[Addr.add]
  | 1,hj=>simp[It.cells] at hj;subst hj;simp[Addr.add]
  | 2,hj=>simp[It.cells] at hj;subst hj;simp[Addr.add]
  | 3,hj=>simp[It.cells] at hj;subst hj;simp[Addr.add]
 case c2=>intro u hu;simp[It.cells] at hu;rcases hu with rfl | rfl | rfl | rfl <;> rfl
 intro v' w1 hown' hgrow _;obtain ⟨g',cap',rfl,_⟩:=aS hown' (by omega);have hinv:=hid (hH.out.pushed hHR.out ⟨kind,text,0,q⟩ _ hown' hgrow);have hne:some B≠vi.ownBlock:=fun e=>by have:=(hrow.out.lt B e.symm).1;omega
 have hc1:=hgrow.cell (a:=⟨B,2,none⟩) ((World.cell?_alloc_past _ _ _ hH.out.has).trans h2) hne
 have hf1:w1.frozen? ⟨B,2,none⟩=false:=by
  rw[World.frozen?_of_block (hgrow.block B (by have:=hH.out.has;simp;omega) hne)];exact (World.frozen?_alloc_past _ _ _ hH.out.has).trans f2
 clear hne hgrow hown'
 go_wp2
 go_ret2
 exact ⟨rfl,by rw[HE.out];exact hinv.out⟩
end Go.Proofs.YtapdbeaoakcjeaaGreatDoor.Se
/- strings.Builder at this program: copyCheck, WriteByte and WriteString, the rest is the shelf's. -/
namespace Go.Proofs.YtapdbeaoakcjeaaGreatDoor.Se
open Go.RowKit
theorem kI:(Tryz.prog.info? 92).map (·.size)=some 2:=by kernel_rfl
theorem qd:liesAt Tryz.prog Tryz.prog.depth 92 (2 / Tryz.prog.cellsOf 92) 0 92 1=true:=by kernel_rfl
theorem qf:(Tryz.prog.info? 5).map (fun i=>(i.zero,i.size,i.bytes))=some (some (.int .u8 0),1,1):=by kernel_rfl
theorem kW (b:Nat) (w:World) (h0:w.cell? ⟨b,0,none⟩=some (.pointer none)) (hsh:w.shape? b=some (92,2)) (hfz:w.frozen? ⟨b,0,none⟩=false):
    Calls Tryz.prog 143 #[.pointer (some ⟨b,0,none⟩)] w fun e w'=>e=.returned (.tuple #[])∧w'=w.setCell ⟨b,0,none⟩ (.pointer (some ⟨b,0,none⟩)):=by
 obtain ⟨j,hj,hjs⟩:=Option.map_eq_some_iff.1 kI
 go_enter Tryz.func143,Tryz.ntmps143
 go_wp2
 rw[Lib.run_to_unsafe w ⟨b,0,none⟩ Tryz.underlying90 Tryz.underlying197 hj (by rw[hjs];decide) hsh (Nat.zero_lt_succ 1)];simp only[Result.andThen];rw[Oper.upon_value]
 go_wp2
 rw[run_callFunc_extern Tryz.func177 (by kernel_rfl) (by kernel_rfl) (by kernel_rfl) (e:=Extern.AbiNoEscape.same) (by kernel_rfl)];rw[Lib.run_noEscape];simp only[Result.andThen];rw[Oper.upon_value]
 go_wp2
 rw[Lib.run_from_unsafe w ⟨b,0,none⟩ Tryz.underlying197 Tryz.underlying90 hj hsh qd];simp only[Result.andThen];rw[Oper.upon_value]
 go_wp2
 go_end0
 exact ⟨rfl,rfl⟩
theorem mi (b:Nat) (w:World) (h0:w.cell? ⟨b,0,none⟩=some (.pointer (some ⟨b,0,none⟩))):
    Calls Tryz.prog 143 #[.pointer (some ⟨b,0,none⟩)] w fun e w'=>e=.returned (.tuple #[])∧w'=w:=by
 obtain ⟨j,hj,_⟩:=Option.map_eq_some_iff.1 kI
 go_enter Tryz.func143,Tryz.ntmps143
 go_wp2
 rw[Lib.run_neq_ptr_same w _ Tryz.underlying90 hj]
 go_wp2
 go_end0
 exact ⟨rfl,rfl⟩
theorem iL (B b:Nat) (bs:List Value) (w:World) (h:Lib.IsBuilder 92 5 B b bs w):
    Calls Tryz.prog 143 #[.pointer (some ⟨b,0,none⟩)] w fun e w'=>e=.returned (.tuple #[])∧Lib.BuilderAt 92 5 B b (.pointer (some ⟨b,0,none⟩)) bs w'∧Below B w w':=by
 rcases h with h | h
 · refine (kW b w h.cell0 h.shape h.frozen0).mono ?_;rintro e w' ⟨rfl,rfl⟩;exact ⟨rfl,h.used _,(ah B w).setCell (p:=⟨b,0,none⟩) h.1 _⟩
 · refine (mi b w h.cell0).mono ?_;rintro e w' ⟨rfl,rfl⟩;exact ⟨rfl,h,ah B _⟩
theorem iM (B b:Nat) (bs:List Value) (c:Int) (w:World) (h:Lib.IsBuilder 92 5 B b bs w) (hlen:bs.length+1≤140737488355328) (hBw:B≤w.heap.size):
    Calls Tryz.prog 107 #[.pointer (some ⟨b,0,none⟩),.int .u8 c] w fun e w'=>e=.returned .nilIface∧Lib.IsBuilder 92 5 B b (bs++[.int .u8 c]) w'∧Below B w w':=by
 obtain ⟨i0,hi,hz0,hz1,hz2⟩:=info_parts qf
 go_enter Tryz.func107,Tryz.ntmps107
 go_wp2_with (go_at_call 143;refine (iL B b bs _ h).mono ?_)
 rintro e w1 ⟨rfl,h1,hb1⟩;obtain ⟨hB,v,hbk,hown,hne⟩:=h1;have c0:w1.cell? ⟨b,0,none⟩=some (.pointer (some ⟨b,0,none⟩)):=by rw[Lib.cell_of_heap hbk];rfl
 have c1:w1.cell? ⟨b,1,none⟩=some v:=by rw[Lib.cell_of_heap hbk];rfl
 go_wp2_with (at_builtin;refine wpList_append_own _ rfl (.tmp 11) (.tmp 13) 79 rfl B 5 i0 (.int .u8 0) 1 1 Tryz.underlying79 hi hz0 hz1 hz2 rfl (by decide) _ _ _ rfl (hown.alloc _) ⟨w1.heap.size,0,none⟩ 1 1 [.int .u8 c] rfl rfl ?c1 ?c2 ?c3 ?c4 ?c5 ?_)
 case c1=>
  intro j u hj
  match j,hj with
  | 0,hj=>simp at hj;subst hj;simp[Addr.add]
 case c2=>intro u hu;simp at hu;subst hu;rfl
 case c3=>unfold maxLen;omega
 case c4=>omega
 case c5=>have:=hb1.size;simp;omega
 intro v' w2 hown' hgrow _
 have hlt:b<w1.heap.size:=by
  rcases Nat.lt_or_ge b w1.heap.size with h' | h'
  · exact h'
  · simp[Array.getElem?_eq_none h'] at hbk
 have hb2:w2.heap[b]? =some (.cells #[.pointer (some ⟨b,0,none⟩),v] 92 (0,0)):=by
  rw[hgrow.block b (by simp;omega) (fun e=>hne e.symm),Lib.alloc_old w1 _ b hlt];exact hbk
 have d0:w2.cell? ⟨b,0,none⟩=some (.pointer (some ⟨b,0,none⟩)):=by rw[Lib.cell_of_heap hb2];rfl
 have d1:w2.cell? ⟨b,1,none⟩=some v:=by rw[Lib.cell_of_heap hb2];rfl
 have f1:w2.frozen? ⟨b,1,none⟩=false:=Lib.frozen_of_heap hb2 1;obtain ⟨g,cap,rfl,_⟩:=aS hown' (by omega)
 go_wp2
 go_ret
 refine ⟨rfl,.inr ?_,?_⟩
 · exact Lib.BuilderAt.put (T:=92) (e:=5) hB hb2 (bs':=bs++[.int .u8 c]) (by simpa using hown') (by decide)
 · exact ((hb1.alloc (by have:=hb1.size;omega) _).grown hgrow (by have:=hb1.size;simp;omega) (fun k hk=>(hown.lt k hk).1)).setCell (p:=⟨b,1,none⟩) hB _
end Go.Proofs.YtapdbeaoakcjeaaGreatDoor.Se
/- 'text' gK a string in quotes. -/
namespace Go.Proofs.YtapdbeaoakcjeaaGreatDoor.Se
open Go.RowKit
theorem Rd.far {B b:Nat} {w w':World} {s p its op vi vo} (h:Rd B w s p its op vi vo) (hB:B<b) (hi:∀g,vi.ownBlock=some g→g<b) (ho:∀g,vo.ownBlock=some g→g<b) (hb:Below b w w'):Rd B w' s p its op vi vo:=by
 have key:∀(e z n:Nat) (v:Value) (xs:List Value),(∀g,v.ownBlock=some g→g<b)→w.ownsRow (B+1) e z v n xs→w'.ownsRow (B+1) e z v n xs:=by
  intro e z n v xs hv hr;obtain ⟨hl,h0 | ⟨g,cap,cur,hvv,hg,hh,r⟩⟩:=hr
  · exact ⟨hl,.inl h0⟩
  · exact ⟨hl,.inr ⟨g,cap,cur,hvv,hg,by rw[hb.block g (hv g (by rw[hvv];rfl))];exact hh,r⟩⟩
 exact ⟨by rw[hb.block B hB];exact h.blk,key _ _ _ _ _ hi h.rowi,key _ _ _ _ _ ho h.rowo⟩
structure At (m:Int) (B:Nat) (w0 w:World) (s:ByteArray) (p:Nat) (its:List It) (op:List Nat) (vi vo:Value):Prop where
 rd:Rd B w s p its op vi vo
 below:Below B w0 w
 has:B<w.heap.size
 big:0<B
 len:w.cell? ⟨0,0,none⟩=some (.int .i64 m)
theorem At.inv {m B w0 w s p its op vi vo} (h:At m B w0 w s p its op vi vo):Inv m B w0 w s p its op:=⟨⟨vi,vo,h.rd⟩,h.below,h.has,h.big,h.len⟩
theorem Inv.at {m B w0 w s p its op} (h:Inv m B w0 w s p its op):∃vi vo,At m B w0 w s p its op vi vo:=let ⟨vi,vo,r⟩:=h.rd;⟨vi,vo,⟨r,h.below,h.has,h.big,h.len⟩⟩
theorem At.drewN {m B w0 w s p its op vi vo} (h:At m B w0 w s p its op vi vo) (n:Nat):At m B w0 (w.drewN n) s p its op vi vo:=
 ⟨⟨h.rd.blk,h.rd.rowi,h.rd.rowo⟩,aO h.below n,h.has,h.big,h.len⟩
theorem At.setPos {m B w0 w s p its op vi vo} (h:At m B w0 w s p its op vi vo) (p':Nat) (q:Int) (hq:q=p'):At m B w0 (w.setCell ⟨B,1,none⟩ (.int .i64 q)) s p' its op vi vo:=by
 subst hq;obtain ⟨hr,hb,hh,h0,hl⟩:=h;refine ⟨⟨?_,?_,?_⟩,hb.setCell (ag B) _,?_,h0,?_⟩
 · simp[World.setCell,Array.getElem?_modify,hr.blk]
 · exact ownsRow_setCell_below hr.rowi (a:=⟨B,1,none⟩) (by show B<B+1;omega) _
 · exact ownsRow_setCell_below hr.rowo (a:=⟨B,1,none⟩) (by show B<B+1;omega) _
 · simpa [World.setCell] using hh
 · rw[World.cell?_setCell_other _ _ _ _ (by simp)];exact hl
theorem At.far {m B w0 w w' s p its op vi vo} {b:Nat} (h:At m B w0 w s p its op vi vo) (hB:B<b) (hi:∀g,vi.ownBlock=some g→g<b) (ho:∀g,vo.ownBlock=some g→g<b) (hb:Below b w w'):At m B w0 w' s p its op vi vo:=
 ⟨h.rd.far hB hi ho hb,h.below.trans (hb.mono (aI hB)),ap h.has hb.size,h.big,(hb.cell (p:=⟨0,0,none⟩) (by show 0<b;omega)).trans h.len⟩
theorem At.ofAlloc {m B w0 w s p its op vi vo} (h:At m B w0 w s p its op vi vo) (o:Obj):At m B w0 (w.alloc o) s p its op vi vo:=
 h.far h.has (fun g hg=>(h.rd.rowi.lt g hg).2) (fun g hg=>(h.rd.rowo.lt g hg).2) ((ah _ _).alloc (ag _) _)
theorem At.cellAt {m B w0 w s p its op vi vo} (h:At m B w0 w s p its op vi vo):w.cell? ⟨B,1,none⟩=some (.int .i64 p):=h.rd.at
theorem df {B b:Nat} {bs:List Value} {w:World} (h:Lib.IsBuilder 92 5 b b bs w) (hB:B<b) (j:Nat) (v:Value):Lib.IsBuilder 92 5 b b bs (w.setCell ⟨B,j,none⟩ v):=by
 have key:∀p,Lib.BuilderAt 92 5 b b p bs w→Lib.BuilderAt 92 5 b b p bs (w.setCell ⟨B,j,none⟩ v):=by
  rintro p ⟨h1,u,h2,h3,h4⟩;exact ⟨h1,u,by rw[aB _ _ _ _ (by show b≠B;omega)];exact h2,ownsRow_setCell_below h3 (a:=⟨B,j,none⟩) hB v,h4⟩
 exact h.elim (fun x=>.inl (key _ x)) (fun x=>.inr (key _ x))
theorem ek {b:Nat} {bs:List Value} {w:World} (h:Lib.IsBuilder 92 5 b b bs w) (n:Nat):Lib.IsBuilder 92 5 b b bs (w.drewN n):=h
theorem kJ (w:World):Lib.IsBuilder 92 5 w.heap.size w.heap.size (Lib.byteCells []) (w.alloc (.cells #[.pointer none,.slice none 0 0] 92)):=
 .inl ⟨ag _,.slice none 0 0,by show (w.heap.push _)[w.heap.size]? =_;simp,World.ownsRow_nil _ _ _ _,by simp[Value.ownBlock]⟩
def TextPost (m:Int) (B:Nat) (w0:World) (s:ByteArray) (p:Nat) (its:List It) (op:List Nat) (e:Ending) (w':World):Prop:=
 match Sx.textN (s.data.toList.drop (p+1)) with
 | some x=>e=.returned (.tuple #[.string ⟨x.1.toArray⟩,.bool true])∧Inv m B w0 w' s (p+1+x.2) its op
 | none=>e=.returned (.tuple #[.string ⟨#[]⟩,.bool false])∧∃k,k≤s.size∧Inv m B w0 w' s k its op
theorem TextPost.none_of {m:Int} {B:Nat} {w0:World} {s:ByteArray} {p:Nat} {its:List It} {op:List Nat} {w':World} {k:Nat} (h:Sx.textN (s.data.toList.drop (p+1))=none) (hk:k≤s.size) (hi:Inv m B w0 w' s k its op):
    TextPost m B w0 s p its op (.returned (.tuple #[.string ⟨#[]⟩,.bool false])) w':=by
 unfold TextPost;rw[h];exact ⟨rfl,k,hk,hi⟩
theorem TextPost.some_of {m:Int} {B:Nat} {w0:World} {s:ByteArray} {p:Nat} {its:List It} {op:List Nat} {w':World} {t:List UInt8} {n k:Nat} (h:Sx.textN (s.data.toList.drop (p+1))=some (t,n)) (hk:k=p+1+n) (hi:Inv m B w0 w' s k its op):
    TextPost m B w0 s p its op (.returned (.tuple #[.string ⟨t.toArray⟩,.bool true])) w':=by
 unfold TextPost;rw[h];subst hk;exact ⟨rfl,hi⟩
def cV (s:ByteArray) (p k:Nat) (acc:List UInt8):Prop:=
 (Sx.textN (s.data.toList.drop k)).map (fun x=>(acc++x.1,k+x.2))=(Sx.textN (s.data.toList.drop (p+1))).map (fun x=>(x.1,p+1+x.2))
theorem xZ {s:ByteArray} {p k:Nat} {acc:List UInt8} (h:cV s p k acc) (hk:¬k<s.size):Sx.textN (s.data.toList.drop (p+1))=none:=by
 unfold cV at h;rw[jC s k hk] at h
 simpa [Sx.textN] using h.symm
theorem x6 {s:ByteArray} {p k:Nat} {acc:List UInt8} (h:cV s p k acc) (hk:k<s.size) (hq:¬s[k].toNat=34) (hb:s[k].toNat<32∨126<s[k].toNat):Sx.textN (s.data.toList.drop (p+1))=none:=by
 unfold cV at h;rw[eh s k hk] at h
 have:Sx.textN (s[k]::s.data.toList.drop (k+1))=none:=by
  cases s.data.toList.drop (k+1) with
  | nil=>simp[Sx.textN,hq]
  | cons d r=>simp only[Sx.textN];rw[if_neg hq,if_pos hb]
 rw[this] at h
 simpa using h.symm
theorem nE {s:ByteArray} {p k:Nat} {acc:List UInt8} (h:cV s p k acc) (hk:k<s.size) (hq:s[k].toNat=34) (hn:∀h:k+1<s.size,¬s[k+1].toNat=34):∃n,Sx.textN (s.data.toList.drop (p+1))=some (acc,n)∧k+1=p+1+n:=by
 unfold cV at h;rw[eh s k hk] at h
 have:Sx.textN (s[k]::s.data.toList.drop (k+1))=some ([],1):=by
  by_cases h1:k+1<s.size
  · rw[eh s (k+1) h1];simp only[Sx.textN];rw[if_pos hq,if_neg (hn h1)]
  · rw[jC s (k+1) h1];simp[Sx.textN,hq]
 rw[this] at h;cases e:Sx.textN (s.data.toList.drop (p+1)) with
 | none=>rw[e] at h;simp at h
 | some x=>
   rw[e] at h
   simp at h
   exact ⟨x.2,by rw[h.1],h.2⟩
theorem uq {s:ByteArray} {p k:Nat} {acc:List UInt8} (h:cV s p k acc) (hk:k<s.size) (hn:k+1<s.size) (hq:s[k].toNat=34) (hr:s[k+1].toNat=34):cV s p (k+2) (acc++[s[k]]):=by
 unfold cV at *;rw[eh s k hk,eh s (k+1) hn] at h;rw[←h];simp only[Sx.textN];rw[if_pos hq,if_pos hr,Option.map_map];have e34:s[k]=34:=UInt8.toNat_inj.1 hq
 congr 1
 funext x
 simp only[Function.comp,e34,List.append_assoc,List.singleton_append,Prod.mk.injEq,true_and]
 omega
theorem vV {s:ByteArray} {p k:Nat} {acc:List UInt8} (h:cV s p k acc) (hk:k<s.size) (hq:¬s[k].toNat=34) (hb:¬(s[k].toNat<32∨126<s[k].toNat)):cV s p (k+1) (acc++[s[k]]):=by
 unfold cV at *;rw[eh s k hk] at h;rw[←h];cases s.data.toList.drop (k+1) with
 | nil=>simp[Sx.textN,hq]
 | cons d r=>
   rw[Sx.textN];rw[if_neg hq,if_neg hb,Option.map_map]
   congr 1
   funext x
   simp only[Function.comp,List.append_assoc,List.singleton_append,Prod.mk.injEq,true_and]
   omega
theorem vW (m:Int) (B:Nat) (w0 w:World) (s:ByteArray) (p:Nat) (its:List It) (op:List Nat) (h:Inv m B w0 w s p its op) (hs:s.size≤65536) (hp:p<s.size):
    Calls Tryz.prog 132 #[.pointer (some ⟨B,0,none⟩)] w (TextPost m B w0 s p its op):=by
 obtain ⟨vi,vo,ha⟩:=h.at;clear h;have hBb:=ha.has;have hvi:∀g,vi.ownBlock=some g→g<w.heap.size:=fun g hg=>(ha.rd.rowi.lt g hg).2
 have hvo:∀g,vo.ownBlock=some g→g<w.heap.size:=fun g hg=>(ha.rd.rowo.lt g hg).2
 have hat:=ha.cellAt;have hfz:=ha.rd.fz 1;have hnew:=hid ((ha.setPos (p+1) ((p:Int)+1) rfl).ofAlloc (.cells #[.pointer none,.slice none 0 0] 92));have hsz:(w.setCell ⟨B,1,none⟩ (.int .i64 ((p:Int)+1))).heap.size=w.heap.size:=by simp[World.setCell]
 have hbd:Hid (Lib.IsBuilder 92 5 w.heap.size w.heap.size (Lib.byteCells []) ((w.setCell ⟨B,1,none⟩ (.int .i64 ((p:Int)+1))).alloc (.cells #[.pointer none,.slice none 0 0] 92))):=
  hid (by have:=kJ (w.setCell ⟨B,1,none⟩ (.int .i64 ((p:Int)+1)));rwa [hsz] at this)
 have hsz2:w.heap.size≤((w.setCell ⟨B,1,none⟩ (.int .i64 ((p:Int)+1))).alloc (.cells #[.pointer none,.slice none 0 0] 92)).heap.size:=by simp[World.setCell]
 have HZ:=hid hsz2;clear hsz hsz2;have HV:=hid (And.intro hvi hvo);clear ha hvi hvo
 go_enter Tryz.func132,Tryz.ntmps132
 go_wp2
 generalize hb:w.heap.size=b at *;have HB:=hid hb;clear hb
 go_loopw [5] (fun _ wr=>∃(k:Nat) (acc:List UInt8),p+1≤k∧k≤s.size∧acc.length≤k∧At m B w0 wr s k its op vi vo∧Lib.IsBuilder 92 5 b b (Lib.byteCells acc) wr∧b≤wr.heap.size∧cV s p k acc)
  (fun _ wr=>s.size-(match wr.cell? ⟨B,1,none⟩ with | some (.int _ k)=>k.toNat | _=>0))
 case atStart=>exact ⟨p+1,[],ag _,hp,by simp,hnew.out,hbd.out,HZ.out,by unfold cV;simp⟩
 case round=>
  clear hat hfz hnew hbd HZ HB;obtain ⟨k,acc,hk1,hk2,hacc,hAt,hBd,hbw,hrel⟩:=hrel;have HA:=hid hAt;have HD:=hid hBd;have HR:=hid hrel;have hsrc:=hAt.rd.src;have hat:=hAt.rd.at;have hfz:=hAt.rd.fz 1;clear hAt hBd hrel
  by_cases hlt:k<s.size
  · by_cases hq:s[k].toNat=34
    · have hq1:((s[k].toNat:Int)==34)=true:=by simp[hq]
      by_cases hn:k+1<s.size
      · have hn1:decide ((k:Int)+1<s.size)=true:=by simp;omega
        by_cases hr:s[k+1].toNat=34
        · have hr1:((s[k+1].toNat:Int)==34)=true:=by simp[hr]
          have hx0:(0:Int)≤(k:Int)+1:=by omega
          have hx1:((k:Int)+1).toNat=k+1:=by omega
          have hx2:(k:Int)+1<(s.size:Int):=by omega
          have HQ:=hid (And.intro hq hr);clear hq hr
          go_wp2
          go_quiet (fail)
          go_wp2
          go_quiet (fail)
          go_wp2
          go_quiet (fail)
          go_wp2_with (go_at_call 107;refine (iM b b _ _ _ (df (ek HD.out _) hBb _ _) (by rw[Lib.byteCells_length];omega) (by simpa [World.setCell] using hbw)).mono ?_;rintro e w' ⟨rfl,hbd',hbl'⟩;have hA2:=hid (((HA.out.drewN _).setPos (k+1) ((k:Int)+1) rfl).far hBb HV.out.1 HV.out.2 hbl');have hc2:w'.cell? ⟨B,1,none⟩=some (.int .i64 ((k:Int)+1)):=hA2.out.cellAt;have hf2:=hA2.out.rd.fz 1;have HB2:=hid hbd';have hs2:=hid hbl'.size;clear hbd' hbl')
          go_roundw
          case rel=>
           refine ⟨k+2,acc++[s[k]],by omega,by omega,by simp;omega,hA2.out.setPos (k+2) _ (by omega),?_,?_,?_⟩
           · rw[Lib.byteCells_append];exact df HB2.out hBb _ _
           · have:=hs2.out;simp[World.setCell] at this ⊢;omega
           · exact uq HR.out hlt hn HQ.out.1 HQ.out.2
          case measure=>
           rw[World.cell?_setCell_same _ _ _ hA2.out.cellAt,hat];show s.size-((k:Int)+1+1).toNat<s.size-(k:Int).toNat
           omega
        · have hr1:((s[k+1].toNat:Int)==34)=false:=by simp;omega
          have hx0:(0:Int)≤(k:Int)+1:=by omega
          have hx1:((k:Int)+1).toNat=k+1:=by omega
          have hx2:(k:Int)+1<(s.size:Int):=by omega
          have HN:=hid (nE HR.out hlt hq (fun h=>hr));clear hq hr
          go_wp2
          go_quiet (fail)
          go_wp2
          go_quiet (fail)
          go_wp2
          go_quiet (fail)
          go_wp2_with (go_at_call 58;refine (Tryz.Builder_String_any b b acc _ (df (ek HD.out _) hBb _ _) (by simpa [World.setCell] using hbw)).mono ?_;rintro e w' ⟨rfl,hbl'⟩)
          go_ret2
          exact TextPost.some_of HN.out.choose_spec.1 HN.out.choose_spec.2 (((HA.out.drewN _).setPos (k+1) _ rfl).far hBb HV.out.1 HV.out.2 hbl').inv
      · have hn1:decide ((k:Int)+1<s.size)=false:=by simp;omega
        have HN:=hid (nE HR.out hlt hq (fun h=>absurd h hn));clear hq
        go_wp2
        go_quiet (fail)
        go_wp2
        go_quiet (fail)
        go_wp2
        go_quiet (fail)
        go_wp2_with (go_at_call 58;refine (Tryz.Builder_String_any b b acc _ (df (ek HD.out _) hBb _ _) (by simpa [World.setCell] using hbw)).mono ?_;rintro e w' ⟨rfl,hbl'⟩)
        go_ret2
        exact TextPost.some_of HN.out.choose_spec.1 HN.out.choose_spec.2 (((HA.out.drewN _).setPos (k+1) _ rfl).far hBb HV.out.1 HV.out.2 hbl').inv
    · have hq1:((s[k].toNat:Int)==34)=false:=by simp;omega
      by_cases hbad:s[k].toNat<32∨126<s[k].toNat
      · have HN:=hid (x6 HR.out hlt hq hbad)
        by_cases hlo:(s[k].toNat:Int)<32
        all_goals
         go_wp2
         go_quiet (fail)
         go_wp2
         go_quiet (fail)
         go_wp2
         go_quiet (fail)
         go_wp2
         go_ret2
         exact TextPost.none_of HN.out hk2 (HA.out.drewN _).inv
      · have hlo:¬(s[k].toNat:Int)<32:=by omega
        have hhi:¬126<(s[k].toNat:Int):=by omega
        have HN:=hid (vV HR.out hlt hq hbad);clear hq hbad
        go_wp2
        go_quiet (fail)
        go_wp2
        go_quiet (fail)
        go_wp2
        go_quiet (fail)
        go_wp2_with (go_at_call 107;refine (iM b b _ _ _ (ek HD.out _) (by rw[Lib.byteCells_length];omega) hbw).mono ?_;rintro e w' ⟨rfl,hbd',hbl'⟩;have hA2:=hid ((HA.out.drewN _).far hBb HV.out.1 HV.out.2 hbl');have hc2:=hA2.out.cellAt;have hf2:=hA2.out.rd.fz 1;have HB2:=hid hbd';have hs2:=hid hbl'.size;clear hbd' hbl')
        go_roundw
        case rel=>
         refine ⟨k+1,acc++[s[k]],by omega,by omega,by simp;omega,hA2.out.setPos (k+1) _ (by omega),?_,?_,HN.out⟩
         · rw[Lib.byteCells_append];exact df HB2.out hBb _ _
         · have:=hs2.out;simp[World.setCell] at this ⊢;omega
        case measure=>
         rw[World.cell?_setCell_same _ _ _ hA2.out.cellAt,hat];show s.size-((k:Int)+1).toNat<s.size-(k:Int).toNat
         omega
  · have HN:=hid (xZ HR.out hlt)
    go_wp2
    go_quiet (fail)
    go_wp2
    go_ret2
    exact TextPost.none_of HN.out hk2 (HA.out.drewN _).inv
end Go.Proofs.YtapdbeaoakcjeaaGreatDoor.Se

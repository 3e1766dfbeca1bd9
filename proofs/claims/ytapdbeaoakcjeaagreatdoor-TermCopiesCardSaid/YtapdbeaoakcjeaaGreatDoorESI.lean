/- 'item' gK one item. -/
import Derived.Test.YtapdbeaoakcjeaaGreatDoorESF
import Derived.StillTailTactics
import Derived.Deep.RegionHeld3
import Derived.Deep.AppendLies
import Derived.Deep.RegionLaw
set_option maxRecDepth 100000
set_option maxHeartbeats 40000000
open Go.Lib (hid)
namespace Go.Proofs.YtapdbeaoakcjeaaGreatDoor.Se
open Go.RowKit
structure PSt where
 pos:Nat
 its:List It
 op:List Nat
def cW (st:PSt) (kind:Int) (text:ByteArray) (q:Nat) (pos':Nat):Except (Nat×Int) PSt:=
 if 256<st.op.length then .error (q,6) else .ok ⟨pos',eB st.its st.op.getLast? ++[⟨kind,text,0,q⟩],st.op⟩
def dh (s:ByteArray) (p:Nat):Nat:=((s.data.toList.drop p).takeWhile Sx.wb).length
def dG (s:ByteArray) (st:PSt):Except (Nat×Int) PSt:=
 let c:=((s.data.toList.drop st.pos).headD 0).toNat
 if c=41 then (if st.op=[] then .error (st.pos,2) else .ok ⟨st.pos+1,st.its,st.op.dropLast⟩)
 else if c=40 then (match cW st 5 ⟨#[]⟩ st.pos (st.pos+1) with | .ok x=>.ok ⟨x.pos,x.its,x.op++[x.its.length-1]⟩ | .error e=>.error e)
 else if c=34 then (match Sx.textN (s.data.toList.drop (st.pos+1)) with | some x=>cW st 4 ⟨x.1.toArray⟩ st.pos (st.pos+1+x.2) | none=>.error (st.pos,2))
 else
  let kind:=Sx.wkind (s.extract st.pos (st.pos+dh s st.pos)).data.toList
  if kind=0 then .error (st.pos,2) else cW st kind (s.extract st.pos (st.pos+dh s st.pos)) st.pos (st.pos+dh s st.pos)
structure Good (p:Nat) (its:List It) (op:List Nat):Prop where
 inop:∀i∈op,i<its.length
 kids:∀x∈its,0≤x.kids∧x.kids≤its.length
 few:its.length≤p
 opn:op.length≤its.length
def ItemPost (m:Int) (B:Nat) (w0:World) (s:ByteArray) (st:PSt) (e:Ending) (w':World):Prop:=
 match dG s st with
 | .ok x=>e=.returned (.tuple #[.int .i64 0,.int .i64 0])∧Inv m B w0 w' s x.pos x.its x.op
 | .error (a,k)=>e=.returned (.tuple #[.int .i64 a,.int .i64 k])∧Below B w0 w'
theorem ItemPost.ok_of {m:Int} {B:Nat} {w0:World} {s:ByteArray} {st:PSt} {w':World} {x:PSt} (h:dG s st=.ok x) (hi:Inv m B w0 w' s x.pos x.its x.op):ItemPost m B w0 s st (.returned (.tuple #[.int .i64 0,.int .i64 0])) w':=by
 unfold ItemPost;rw[h];exact ⟨rfl,hi⟩
theorem ItemPost.error_of {m:Int} {B:Nat} {w0:World} {s:ByteArray} {st:PSt} {w':World} {a:Nat} {k:Int} (h:dG s st=.error (a,k)) (hi:Below B w0 w'):ItemPost m B w0 s st (.returned (.tuple #[.int .i64 a,.int .i64 k])) w':=by
 unfold ItemPost;rw[h];exact ⟨rfl,hi⟩
theorem y6 (s:ByteArray) (p:Nat) (h:p<s.size):((s.data.toList.drop p).headD 0)=s[p]:=by rw[eh s p h];rfl
theorem ev (s:ByteArray) (p:Nat) (its:List It) (op:List Nat) (h:p<s.size):dG s ⟨p,its,op⟩=
    if s[p].toNat=41 then (if op=[] then .error (p,2) else .ok ⟨p+1,its,op.dropLast⟩)
    else if s[p].toNat=40 then (match cW ⟨p,its,op⟩ 5 ⟨#[]⟩ p (p+1) with | .ok x=>.ok ⟨x.pos,x.its,x.op++[x.its.length-1]⟩ | .error e=>.error e)
    else if s[p].toNat=34 then (match Sx.textN (s.data.toList.drop (p+1)) with | some x=>cW ⟨p,its,op⟩ 4 ⟨x.1.toArray⟩ p (p+1+x.2) | none=>.error (p,2))
    else if Sx.wkind (s.extract p (p+dh s p)).data.toList=0 then .error (p,2) else cW ⟨p,its,op⟩ (Sx.wkind (s.extract p (p+dh s p)).data.toList) (s.extract p (p+dh s p)) p (p+dh s p):=by
 unfold dG;rw[y6 s p h]
theorem Inv.popped {m B w0 w s p its} {op':List Nat} {i:Nat} {vi vo:Value} (hr:Rd B w s p its (op'++[i]) vi vo) (h:Inv m B w0 w s p its (op'++[i])) {g cap:Nat} (hv:vo=.slice (some ⟨g,0,none⟩) (op'.length+1) cap):
    Inv m B w0 (w.setCell ⟨B,3,none⟩ (.slice (some ⟨g,0,none⟩) op'.length cap)) s p its op':=by
 refine ⟨⟨vi,.slice (some ⟨g,0,none⟩) op'.length cap,?_,?_,?_⟩,h.below.setCell (ag B) _,?_,h.big,?_⟩
 · simp[World.setCell,Array.getElem?_modify,hr.blk]
 · exact ownsRow_setCell_below hr.rowi (a:=⟨B,3,none⟩) (by show B<B+1;omega) _
 · have:=ownsRow_setCell_below hr.rowo (a:=⟨B,3,none⟩) (by show B<B+1;omega) (.slice (some ⟨g,0,none⟩) op'.length cap);rw[hv] at this;rw[aA,aK] at this;obtain ⟨hl,h0 | ⟨g',cap',cur,hvv,hg,hh,hn,hc,hsz,ht⟩⟩:=this
   · exact absurd h0.2 (by omega)
   · cases hvv
     refine ⟨by simp,.inr ⟨g,cap,cur,rfl,hg,hh,by omega,hc,hsz,?_⟩⟩;have h2:=congrArg (List.take op'.length) ht;simp only[Nat.mul_one,List.take_take,List.map_append] at h2;rw[Nat.min_eq_left (by omega)] at h2;rw[Nat.mul_one,h2]
     simp
 · simpa [World.setCell] using h.has
 · rw[World.cell?_setCell_other _ _ _ _ (by simp)];exact h.len
theorem rK (m:Int) (B:Nat) (w0 w:World) (s:ByteArray) (p:Nat) (its:List It) (op:List Nat) (h:Inv m B w0 w s p its op) (hs:s.size≤65536) (hp:p<s.size) (hg:Good p its op) (hc:s[p].toNat=41):
    Calls Tryz.prog 96 #[.pointer (some ⟨B,0,none⟩)] w (ItemPost m B w0 s ⟨p,its,op⟩):=by
 have hc1:((s[p].toNat:Int)==41)=true:=by simp[hc]
 obtain ⟨vi,vo,hr⟩:=h.rd;have hsrc:=hr.src;have hat:=hr.at;have hfz:=hr.fz 1;have hfz3:=hr.fz 3;have h3:=hr.ops
 by_cases hop:op=[]
 · have HF:=hid (show dG s ⟨p,its,op⟩=.error (p,2) by rw[ev s p its op hp,if_pos hc,if_pos hop]);have HB:=hid h.below;obtain ⟨a,cap,hvo⟩:=bL hr.rowo;rw[hvo,hop] at h3;clear hr h hg hc hvo hop
   go_enter Tryz.func96,Tryz.ntmps96
   go_wp2_with fail
   go_ret2
   exact ItemPost.error_of HF.out HB.out
 · have HF:=hid (show dG s ⟨p,its,op⟩=.ok ⟨p+1,its,op.dropLast⟩ by rw[ev s p its op hp,if_pos hc,if_neg hop]);obtain ⟨op',i,rfl⟩:∃op' i,op=op'++[i]:=⟨op.dropLast,op.getLast hop,(List.dropLast_concat_getLast hop).symm⟩
   rw[List.dropLast_concat] at HF;obtain ⟨go,co,hvo,hgo,hco⟩:=aS hr.rowo (by simp);rw[aA,aK] at hvo hco;rw[hvo] at h3;have hlen:op'.length+1≤65536:=by have:=hg.opn;have:=hg.few;simp at *;omega
   have HP:=hid (Inv.popped hr h hvo);have hwrap:IntKind.i64.wrap (op'.length:Int)=op'.length:=by rw[IntKind.wrap_i64];omega
   have hle:op'.length≤co:=by omega
   have hcm:co≤9223372036854775807:=by have:=hco.2;unfold maxLen at this;omega
   have hidx:0≤(op'.length:Int)∧(op'.length:Int)<(op'.length:Int)+1:=⟨by omega,by omega⟩
   clear hr h hg hc hvo hop hco hgo
   go_enter Tryz.func96,Tryz.ntmps96
   go_wp2_with fail
   go_region
   have hI:=HP.out.drew;clear HP;generalize hW:(w.setCell ⟨B,3,none⟩ (.slice (some ⟨go,0,none⟩) op'.length co)).drew=wz at *;clear hW;have hat2:=hI.cellAt;have hfz2:=hI.rd.choose_spec.choose_spec.fz 1;have HI:=hid hI;clear hI hat hfz hfz3 h3 hsrc hwrap hle hcm hidx
   go_wp2_with fail
   go_ret2
   exact ItemPost.ok_of HF.out (HI.out.setPos (p+1) _ (by omega))
theorem oN (m:Int) (B:Nat) (w0 w:World) (s:ByteArray) (p q:Nat) (its:List It) (op:List Nat) (h:Inv m B w0 w s p its op) (hd:¬256<op.length) (hg:Good q its op) (hq:q≤65536) (kind:Int) (text:ByteArray):
    Calls Tryz.prog 131 #[.pointer (some ⟨B,0,none⟩),.int .i64 kind,.string text,.int .i64 q] w fun e w'=>e=.returned (.tuple #[.int .i64 0,.int .i64 0])∧Inv m B w0 w' s p (eB its op.getLast? ++[⟨kind,text,0,q⟩]) op:=by
 by_cases hop:op=[]
 · subst hop;exact xY m B w0 w s p its h (by have:=hg.few;omega) kind q text
 · obtain ⟨op',i,rfl⟩:∃op' i,op=op'++[i]:=⟨op.dropLast,op.getLast hop,(List.dropLast_concat_getLast hop).symm⟩
   have hi:i<its.length:=hg.inop i (by simp);have hk:=hg.kids its[i] (List.getElem_mem hi);have hf:=hg.few;have:=yZ m B w0 w s p its op' i its[i] h (by simp at hd;omega) (aq hi) ⟨hk.1,by omega⟩ (by omega) kind q text;rw[List.getLast?_concat];exact this
theorem jE (its:List It) (o:Option Nat):(eB its o).length=its.length:=by
 cases o <;> simp[eB]
theorem Inv.opened {m B w0 w s p its op} {vi vo:Value} (hr:Rd B w s p its op vi vo) (h:Inv m B w0 w s p its op) (n:Nat) (o:Obj) {w2:World} {v':Value}
    (hown:w2.ownsRow (B+1) 3 1 v' (op.length+1) ((op.map fun n:Nat=>Value.int .i64 n)++[.int .i64 n])) (hg:(w.alloc o).grownBy w2 vo.ownBlock):
    Inv m B w0 (w2.setCell ⟨B,3,none⟩ v') s p its (op++[n]):=by
 have hi:=hr.rowo;have hlt:∀k,vo.ownBlock=some k→B+1≤k∧k<w.heap.size:=hi.lt;have hB:B<(w.alloc o).heap.size:=by have:=h.has;simp;omega
 have hne:some B≠vo.ownBlock:=fun e=>by have:=(hlt B e.symm).1;omega
 have hblk:w2.heap[B]? =some (.cells #[.string s,.int .i64 p,vi,vo] 121 (0,0)):=by
  rw[hg.block B hB hne,←hr.blk];show (w.heap.push o)[B]? =_;rw[Array.getElem?_push,if_neg (Nat.ne_of_lt h.has)]
 have hri:w2.ownsRow (B+1) 88 4 vi its.length (hJ its):=by
  refine (hr.rowi.alloc o).kept hg ?_;cases e:vi.ownBlock with
  | none=>exact .inl rfl
  | some g=>exact .inr (fun h2=>eg hr.rowi hr.rowo (by decide) e h2.symm)
 refine ⟨⟨vi,v',?_,?_,?_⟩,?_,?_,h.big,?_⟩
 · simp[World.setCell,Array.getElem?_modify,hblk]
 · exact ownsRow_setCell_below hri (a:=⟨B,3,none⟩) (by show B<B+1;omega) v'
 · have:=ownsRow_setCell_below hown (a:=⟨B,3,none⟩) (by show B<B+1;omega) v';rw[aA,List.map_append]
   simpa using this
 · exact ((h.below.alloc (aI h.has) _).grown hg (aI hB) (fun k hk=>by have:=(hlt k hk).1;omega)).setCell (ag B) _
 · have:=hg.size;simp[World.setCell] at this ⊢;have:=h.has;omega
 · rw[World.cell?_setCell_other _ _ _ _ (by simp)];refine hg.cell (a:=⟨0,0,none⟩) ?_ (fun e=>by have:=(hlt 0 e.symm).1;omega);rw[World.cell?_alloc_past _ _ _ (by have:=h.has;show 0<_;omega)];exact h.len
theorem ur (m:Int) (B:Nat) (w0 w:World) (s:ByteArray) (p:Nat) (its:List It) (op:List Nat) (h:Inv m B w0 w s p its op) (hs:s.size≤65536) (hp:p<s.size) (hg:Good p its op) (hc:s[p].toNat=40):
    Calls Tryz.prog 96 #[.pointer (some ⟨B,0,none⟩)] w (ItemPost m B w0 s ⟨p,its,op⟩):=by
 have hc0:((s[p].toNat:Int)==41)=false:=by simp[hc]
 have hc1:((s[p].toNat:Int)==40)=true:=by simp[hc]
 have HE:=ev s p its op hp;rw[if_neg (by omega),if_pos hc] at HE;have HE:=hid HE;obtain ⟨vi,vo,hr⟩:=h.rd;have hsrc:=hr.src;have hat:=hr.at;have hfz:=hr.fz 1;have H2:=hid (h.setPos (p+1) ((p:Int)+1) rfl);have HG:=hid hg;have h16:=hg.opn;have h17:=hg.few
 by_cases hd:256<op.length
 · have HF:Hid (dG s ⟨p,its,op⟩=.error (p,6)):=hid (by rw[HE.out];unfold cW;rw[if_pos hd]);clear hr h hg hc HE
   go_enter Tryz.func96,Tryz.ntmps96
   go_wp2_with (go_at_call 131;refine (jD m B w0 _ s (p+1) its op H2.out hd 5 p ⟨#[]⟩).mono ?_;rintro e w2 ⟨rfl,hw2⟩;subst hw2)
   have hi3:=H2.out;clear H2 hsrc hat hfz;generalize w.setCell ⟨B,1,none⟩ (.int .i64 ((p:Int)+1))=w' at *;obtain ⟨vi3,vo3,hr3⟩:=hi3.rd;obtain ⟨ai,ci,hvi3⟩:=bL hr3.rowi;have h32:=hr3.its;rw[hvi3] at h32;have h33:=hr3.ops;have f33:=hr3.fz 3;have HI3:=hid hi3;have HR3:=hid hr3;clear hi3 hr3 hvi3;obtain ⟨i0,hi,hz0,hz1,hz2⟩:=info_parts infoInt;have hn3:op.length+1≤65536+1:=by omega
   have hHas3:=HI3.out.has;have hwr:IntKind.i64.wrap ((its.length:Int)-1)=(its.length:Int)-1:=by rw[IntKind.wrap_i64];omega
   have hne:some B≠vo3.ownBlock:=fun e=>by have:=(HR3.out.rowo.lt B e.symm).1;omega
   go_region_law ((refine step_append_lies _ (by rfl) _ _ _ (by rfl) (B+1) 3 i0 _ 1 8 Tryz.underlying23 hi hz0 hz1 hz2 rfl (by omega) vo3 op.length _ (by rfl) ((HR3.out.rowo.alloc _).drew) ⟨w'.heap.size,0,none⟩ 1 1 [.int .i64 ((its.length:Int)-1)] (by rfl) (by rfl) (World.news_of_block (cs:=#[.int .i64 ((its.length:Int)-1)]) (t:=3) (fr:=(0,0)) (heap_alloc_new w' _)) (by simp[Value.oneCell']) (by omega) (by unfold maxLen;omega) (by omega) (by have:=HI3.out.has;simp;omega) (w'.heap.size+1) (by simp) ?_;intro gg cap w1 hown1 hgrow hat hlt;have hc1:=hgrow.cell (a:=⟨B,3,none⟩) ((World.cell?_alloc_past _ _ _ HI3.out.has).trans h33) hne;have hf1:w1.frozen? ⟨B,3,none⟩=false:=(World.frozen?_of_block (hgrow.block B (by have:=HI3.out.has;simp;omega) hne)).trans ((World.frozen?_alloc_past _ _ _ HI3.out.has).trans f33)))
   all_goals
    have hI5:=hid (((HI3.out.below.alloc (aI HI3.out.has) _).grown ⟨hgrow.os,hgrow.tape,hgrow.output,hgrow.size,hgrow.block⟩ (by have:=HI3.out.has;simp;omega) (fun k hk=>by have:=(HR3.out.rowo.lt k hk).1;omega)).setCell (p:=⟨B,3,none⟩) (ag B) (.slice (some ⟨gg,0,none⟩) (op.length+1) cap))
    go_wp2
    go_ret2
    exact ItemPost.error_of HF.out hI5.out
 · have HF:Hid (dG s ⟨p,its,op⟩=.ok ⟨p+1,eB its op.getLast? ++[⟨5,⟨#[]⟩,0,p⟩],op++[its.length]⟩):=hid (by
     rw[HE.out];unfold cW;rw[if_neg hd];simp[jE])
   have hlb:=jE its op.getLast?;clear hr h hg hc HE
   go_enter Tryz.func96,Tryz.ntmps96
   go_wp2_with (go_at_call 131;refine (oN m B w0 _ s (p+1) p its op H2.out hd HG.out (by omega) 5 ⟨#[]⟩).mono ?_;rintro e w' ⟨rfl,hi3⟩)
   obtain ⟨vi3,vo3,hr3⟩:=hi3.rd;obtain ⟨ai,ci,hvi3⟩:=bL hr3.rowi;have h32:=hr3.its;rw[hvi3,aA,hlb,aK] at h32;have h33:=hr3.ops;have f33:=hr3.fz 3;have HI3:=hid hi3;have HR3:=hid hr3;clear hi3 hr3 hvi3;obtain ⟨i0,hi,hz0,hz1,hz2⟩:=info_parts infoInt;have hn3:op.length+1≤65536:=by omega
   have hHas3:=HI3.out.has;have hwr:IntKind.i64.wrap (its.length:Int)=its.length:=by rw[IntKind.wrap_i64];omega
   have hne:some B≠vo3.ownBlock:=fun e=>by have:=(HR3.out.rowo.lt B e.symm).1;omega
   go_region_law ((refine step_append_lies _ (by rfl) _ _ _ (by rfl) (B+1) 3 i0 _ 1 8 Tryz.underlying23 hi hz0 hz1 hz2 rfl (by omega) vo3 op.length _ (by rfl) ((HR3.out.rowo.alloc _).drew) ⟨w'.heap.size,0,none⟩ 1 1 [.int .i64 its.length] (by rfl) (by rfl) (World.news_of_block (cs:=#[.int .i64 its.length]) (t:=3) (fr:=(0,0)) (heap_alloc_new w' _)) (by simp[Value.oneCell']) (by omega) (by unfold maxLen;omega) (by omega) (by have:=HI3.out.has;simp;omega) (w'.heap.size+1) (by simp) ?_;intro gg cap w1 hown1 hgrow hat hlt;have hc1:=hgrow.cell (a:=⟨B,3,none⟩) ((World.cell?_alloc_past _ _ _ HI3.out.has).trans h33) hne;have hf1:w1.frozen? ⟨B,3,none⟩=false:=(World.frozen?_of_block (hgrow.block B (by have:=HI3.out.has;simp;omega) hne)).trans ((World.frozen?_alloc_past _ _ _ HI3.out.has).trans f33)))
   all_goals
    have hI5:=hid (Inv.opened HR3.out HI3.out its.length _ (by simpa using hown1) ⟨hgrow.os,hgrow.tape,hgrow.output,hgrow.size,hgrow.block⟩)
    go_wp2
    go_ret2
    exact ItemPost.ok_of HF.out hI5.out
end Go.Proofs.YtapdbeaoakcjeaaGreatDoor.Se
/- 'item' gK one item: strings and words. -/
namespace Go.Proofs.YtapdbeaoakcjeaaGreatDoor.Se
open Go.RowKit
theorem ut (m:Int) (B:Nat) (w0 w:World) (s:ByteArray) (p:Nat) (its:List It) (op:List Nat) (h:Inv m B w0 w s p its op) (hs:s.size≤65536) (hp:p<s.size) (hg:Good p its op) (hc:s[p].toNat=34):
    Calls Tryz.prog 96 #[.pointer (some ⟨B,0,none⟩)] w (ItemPost m B w0 s ⟨p,its,op⟩):=by
 have hc0:((s[p].toNat:Int)==41)=false:=by simp[hc]
 have hc1:((s[p].toNat:Int)==40)=false:=by simp[hc]
 have hc2:((s[p].toNat:Int)==34)=true:=by simp[hc]
 have HE:=ev s p its op hp;rw[if_neg (by omega),if_neg (by omega),if_pos hc] at HE;have HE:=hid HE;obtain ⟨vi,vo,hr⟩:=h.rd;have hsrc:=hr.src;have hat:=hr.at;have hfz:=hr.fz 1;have HI:=hid h;have HG:=hid hg;have ht:=vW m B w0 w s p its op h hs hp;clear hr h hg hc;cases e:Sx.textN (s.data.toList.drop (p+1)) with
 | none=>
   have HF:Hid (dG s ⟨p,its,op⟩=.error (p,2)):=hid (by rw[HE.out,e]);unfold TextPost at ht;rw[e] at ht;clear HE e
   go_enter Tryz.func96,Tryz.ntmps96
   go_wp2_with (go_at_call 132;refine ht.mono ?_;rintro e w2 ⟨rfl,k,hk,hi2⟩;have HB:=hid hi2.below;clear hi2)
   go_ret2
   exact ItemPost.error_of HF.out HB.out
 | some x=>
   have HF:Hid (dG s ⟨p,its,op⟩=cW ⟨p,its,op⟩ 4 ⟨x.1.toArray⟩ p (p+1+x.2)):=hid (by rw[HE.out,e]);unfold TextPost at ht;rw[e] at ht;clear HE e
   by_cases hd:256<op.length
   · have HF2:Hid (dG s ⟨p,its,op⟩=.error (p,6)):=hid (by rw[HF.out];unfold cW;rw[if_pos hd])
     go_enter Tryz.func96,Tryz.ntmps96
     go_wp2_with (first
      | (go_at_call 132;refine ht.mono ?_;rintro e w2 ⟨rfl,hi2⟩;have HI2:=hid hi2;clear hi2)
      | (go_at_call 131;refine (jD m B w0 _ s (p+1+x.2) its op HI2.out hd 4 p ⟨x.1.toArray⟩).mono ?_;rintro e w3 ⟨rfl,hw3⟩;subst hw3))
     go_ret2
     exact ItemPost.error_of HF2.out HI2.out.below
   · have HF2:Hid (dG s ⟨p,its,op⟩=.ok ⟨p+1+x.2,eB its op.getLast? ++[⟨4,⟨x.1.toArray⟩,0,p⟩],op⟩):=hid (by rw[HF.out];unfold cW;rw[if_neg hd])
     go_enter Tryz.func96,Tryz.ntmps96
     go_wp2_with (first
      | (go_at_call 132;refine ht.mono ?_;rintro e w2 ⟨rfl,hi2⟩;have HI2:=hid hi2;clear hi2)
      | (go_at_call 131;refine (oN m B w0 _ s (p+1+x.2) p its op HI2.out hd HG.out (by omega) 4 ⟨x.1.toArray⟩).mono ?_;rintro e w3 ⟨rfl,hi3⟩;have HI3:=hid hi3;clear hi3))
     go_ret2
     exact ItemPost.ok_of HF2.out HI3.out
theorem jF (c:UInt8) (w:World):
    Calls Tryz.prog 133 #[.int .u8 c.toNat] w fun e w'=>e=.returned (.bool (Sx.wb c))∧w'=w:=(gZ c w).mono fun _ _ h=>⟨h.1,h.2.symm⟩
theorem rL (s:ByteArray) (k:Nat) (h:k<s.size) (hb:Sx.wb s[k]=true):dh s k=1+dh s (k+1):=by
 unfold dh;rw[eh s k h,List.takeWhile_cons,hb];simp;omega
theorem rM (s:ByteArray) (k:Nat) (h:k<s.size) (hb:Sx.wb s[k]=false):dh s k=0:=by
 unfold dh;rw[eh s k h,List.takeWhile_cons,hb];simp
theorem uu (s:ByteArray) (k:Nat) (h:¬k<s.size):dh s k=0:=by
 unfold dh;rw[jC s k h];simp
theorem vX (s:ByteArray) (k:Nat):dh s k≤s.size-k:=by
 unfold dh;refine aC (List.takeWhile_sublist _).length_le ?_;rw[List.length_drop,de];omega
theorem Inv.far {m B w0 w w' s p its op} (h:Inv m B w0 w s p its op) (hb:Below w.heap.size w w'):Inv m B w0 w' s p its op:=by
 obtain ⟨vi,vo,ha⟩:=h.at;exact (ha.far ha.has (fun g hg=>(ha.rd.rowi.lt g hg).2) (fun g hg=>(ha.rd.rowo.lt g hg).2) hb).inv
theorem uv (m:Int) (B:Nat) (w0 w:World) (s:ByteArray) (p:Nat) (its:List It) (op:List Nat) (h:Inv m B w0 w s p its op) (hs:s.size≤65536) (hp:p<s.size) (hg:Good p its op) (h41:¬s[p].toNat=41) (h40:¬s[p].toNat=40) (h34:¬s[p].toNat=34):
    Calls Tryz.prog 96 #[.pointer (some ⟨B,0,none⟩)] w (ItemPost m B w0 s ⟨p,its,op⟩):=by
 have hc0:((s[p].toNat:Int)==41)=false:=by simp;omega
 have hc1:((s[p].toNat:Int)==40)=false:=by simp;omega
 have hc2:((s[p].toNat:Int)==34)=false:=by simp;omega
 have HE:=ev s p its op hp;rw[if_neg h41,if_neg h40,if_neg h34] at HE;have HE:=hid HE;obtain ⟨vi,vo,hr⟩:=h.rd;have hsrc:=hr.src;have hat:=hr.at;have HI:=hid h;have HG:=hid hg;clear hr h hg h41 h40 h34
 go_enter Tryz.func96,Tryz.ntmps96
 go_wp2
 go_loopw [102] (fun _ wr=>∃k:Nat,p≤k∧k≤s.size∧Inv m B w0 wr s k its op∧k+dh s k=p+dh s p)
  (fun _ wr=>s.size-(match wr.cell? ⟨B,1,none⟩ with | some (.int _ k)=>k.toNat | _=>0))
 case atStart=>exact ⟨p,ag _,by omega,HI.out,rfl⟩
 case round=>
  obtain ⟨k,hk1,hk2,hI,hk⟩:=hrel;have HK:=hid hk;obtain ⟨vi,vo,hr⟩:=hI.rd;clear hat hsrc hk;have hsrc:=hr.src;have hat:=hr.at;have hfz:=hr.fz 1;have HI2:=hid hI;clear hr hI HI
  by_cases hlt:k<s.size
  · have hlt1:decide ((k:Int)<s.size)=true:=by simp;omega
    by_cases hb:Sx.wb s[k]=true
    · go_wp2
      go_quiet ((go_at_call 133;exact Calls.quiet_of_same (jF _ _)))
      go_wp2
      go_roundw
      case rel=>exact ⟨k+1,by omega,by omega,(HI2.out.drewN _).setPos (k+1) _ (by omega),by have:=HK.out;rw[rL s k hlt hb] at this;omega⟩
      case measure=>
       rw[World.cell?_setCell_same _ _ _ (HI2.out.drewN _).cellAt,hat];show s.size-((k:Int)+1).toNat<s.size-(k:Int).toNat
       omega
    · have hb':Sx.wb s[k]=false:=by simpa using hb
      have HN:Hid (k=p+dh s p):=hid (by have:=HK.out;rw[rM s k hlt hb'] at this;omega);clear hb
      go_wp2
      go_quiet ((go_at_call 133;exact Calls.quiet_of_same (jF _ _)))
      rename_i nq
      have hI3:=HI2.out.drewN nq
      go_wp2
      generalize wr.drewN nq=wz at *;obtain ⟨vi3,vo3,hr3⟩:=hI3.rd;have hsrc3:=hr3.src;have hat3:=hr3.at;have HI4:=hid hI3.drew;clear hr3 hI3 hsrc hat hfz;have hb0:(0:Int)≤(p:Int):=by omega
      have hb1:(p:Int)≤(k:Int):=by omega
      have hb2:(k:Int)≤(s.size:Int):=by omega
      go_still_tail 10,(by kernel_rfl)
      change wpList _ _ _ _ _ wz.drew;generalize wz.drew=w2 at *;clear hsrc3 hat3;have hxs:(s.extract p k).size<4294967281:=by rw[ByteArray.size_extract];omega
      obtain ⟨kd,hkd⟩:∃kd,kd=Sx.wkind (s.extract p k).data.toList:=⟨_,rfl⟩
      have HE2:Hid (dG s ⟨p,its,op⟩=if kd=0 then .error (p,2) else cW ⟨p,its,op⟩ kd (s.extract p k) p k):=hid (by rw[HE.out,←HN.out,hkd]);have HW:Hid (∀w:World,w.cell? ⟨0,0,none⟩=some (.int .i64 m)→Calls Tryz.prog 134 #[.string (s.extract p k)] w fun e w'=>e=.returned (.int .i64 kd)∧Below w.heap.size w w'):=hid (fun w hw=>by rw[hkd];exact gz (s.extract p k) m w hxs hw);clear HE HN hkd
      go_wp2_with (go_at_call 134;refine (HW.out _ HI4.out.len).mono ?_;rintro e w3 ⟨rfl,hb3⟩;have HI5:=hid (HI4.out.far hb3);clear hb3)
      · have hz:kd=0:=beq_iff_eq.1 (show (kd==0)=true by assumption)
        go_ret2
        exact ItemPost.error_of (by rw[HE2.out,if_pos hz]) HI5.out.below
      · have hz:¬kd=0:=beq_eq_false_iff_ne.1 (show (kd==0)=false by assumption);obtain ⟨vi5,vo5,hr5⟩:=HI5.out.rd;have hsrc5:=hr5.src;have hat5:=hr5.at;have HI6:=hid HI5.out.drew;clear hr5 HI5
        by_cases hd:256<op.length
        · go_region_held3 (fun w'=>w'.cell? ⟨B,0,none⟩=some (.string s)∧w'.cell? ⟨B,1,none⟩=some (.int .i64 k)) (first | go_keep | exact ⟨hs7,ha7⟩) ((go_at_call 131;refine (jD m B w0 _ s k its op HI6.out hd (kd) p (s.extract p k)).mono ?_;rintro e w5 ⟨rfl,hw5⟩;subst hw5))
          all_goals (try go_wp2)
          all_goals go_ret2
          all_goals exact ItemPost.error_of (k:=6) (by rw[HE2.out,if_neg hz];unfold cW;rw[if_pos hd]) HI6.out.below
        · go_region_held3 (fun w'=>w'.cell? ⟨B,0,none⟩=some (.string s)∧w'.cell? ⟨B,1,none⟩=some (.int .i64 k)) (first | go_keep | exact ⟨hs7,ha7⟩) ((go_at_call 131;refine (oN m B w0 _ s k p its op HI6.out hd HG.out (by omega) (kd) (s.extract p k)).mono ?_;rintro e w5 ⟨rfl,hi5⟩;have HI7:=hid hi5;have hs7:=hi5.rd.choose_spec.choose_spec.src;have ha7:=hi5.rd.choose_spec.choose_spec.at;clear hi5))
          all_goals (try go_wp2)
          all_goals go_ret2
          all_goals exact ItemPost.ok_of (x:=⟨k,eB its op.getLast? ++[⟨kd,s.extract p k,0,p⟩],op⟩) (by rw[HE2.out,if_neg hz];unfold cW;rw[if_neg hd]) HI7.out
  · have hlt1:decide ((k:Int)<s.size)=false:=by simp;omega
    have HN:Hid (k=p+dh s p):=hid (by have:=HK.out;rw[uu s k hlt] at this;omega)
    go_wp2
    go_quiet (fail)
    rename_i nq
    have hI3:=HI2.out.drewN nq
    go_wp2
    generalize wr.drewN nq=wz at *;obtain ⟨vi3,vo3,hr3⟩:=hI3.rd;have hsrc3:=hr3.src;have hat3:=hr3.at;have HI4:=hid hI3.drew;clear hr3 hI3 hsrc hat hfz;have hb0:(0:Int)≤(p:Int):=by omega
    have hb1:(p:Int)≤(k:Int):=by omega
    have hb2:(k:Int)≤(s.size:Int):=by omega
    go_still_tail 10,(by kernel_rfl)
    change wpList _ _ _ _ _ wz.drew;generalize wz.drew=w2 at *;clear hsrc3 hat3;have hxs:(s.extract p k).size<4294967281:=by rw[ByteArray.size_extract];omega
    obtain ⟨kd,hkd⟩:∃kd,kd=Sx.wkind (s.extract p k).data.toList:=⟨_,rfl⟩
    have HE2:Hid (dG s ⟨p,its,op⟩=if kd=0 then .error (p,2) else cW ⟨p,its,op⟩ kd (s.extract p k) p k):=hid (by rw[HE.out,←HN.out,hkd]);have HW:Hid (∀w:World,w.cell? ⟨0,0,none⟩=some (.int .i64 m)→Calls Tryz.prog 134 #[.string (s.extract p k)] w fun e w'=>e=.returned (.int .i64 kd)∧Below w.heap.size w w'):=hid (fun w hw=>by rw[hkd];exact gz (s.extract p k) m w hxs hw);clear HE HN hkd
    go_wp2_with (go_at_call 134;refine (HW.out _ HI4.out.len).mono ?_;rintro e w3 ⟨rfl,hb3⟩;have HI5:=hid (HI4.out.far hb3);clear hb3)
    · have hz:kd=0:=beq_iff_eq.1 (show (kd==0)=true by assumption)
      go_ret2
      exact ItemPost.error_of (by rw[HE2.out,if_pos hz]) HI5.out.below
    · have hz:¬kd=0:=beq_eq_false_iff_ne.1 (show (kd==0)=false by assumption);obtain ⟨vi5,vo5,hr5⟩:=HI5.out.rd;have hsrc5:=hr5.src;have hat5:=hr5.at;have HI6:=hid HI5.out.drew;clear hr5 HI5
      by_cases hd:256<op.length
      · go_region_held3 (fun w'=>w'.cell? ⟨B,0,none⟩=some (.string s)∧w'.cell? ⟨B,1,none⟩=some (.int .i64 k)) (first | go_keep | exact ⟨hs7,ha7⟩) ((go_at_call 131;refine (jD m B w0 _ s k its op HI6.out hd (kd) p (s.extract p k)).mono ?_;rintro e w5 ⟨rfl,hw5⟩;subst hw5))
        all_goals (try go_wp2)
        all_goals go_ret2
        all_goals exact ItemPost.error_of (k:=6) (by rw[HE2.out,if_neg hz];unfold cW;rw[if_pos hd]) HI6.out.below
      · go_region_held3 (fun w'=>w'.cell? ⟨B,0,none⟩=some (.string s)∧w'.cell? ⟨B,1,none⟩=some (.int .i64 k)) (first | go_keep | exact ⟨hs7,ha7⟩) ((go_at_call 131;refine (oN m B w0 _ s k p its op HI6.out hd HG.out (by omega) (kd) (s.extract p k)).mono ?_;rintro e w5 ⟨rfl,hi5⟩;have HI7:=hid hi5;have hs7:=hi5.rd.choose_spec.choose_spec.src;have ha7:=hi5.rd.choose_spec.choose_spec.at;clear hi5))
        all_goals (try go_wp2)
        all_goals go_ret2
        all_goals exact ItemPost.ok_of (x:=⟨k,eB its op.getLast? ++[⟨kd,s.extract p k,0,p⟩],op⟩) (by rw[HE2.out,if_neg hz];unfold cW;rw[if_neg hd]) HI7.out
theorem vY (m:Int) (B:Nat) (w0 w:World) (s:ByteArray) (p:Nat) (its:List It) (op:List Nat) (h:Inv m B w0 w s p its op) (hs:s.size≤65536) (hp:p<s.size) (hg:Good p its op):
    Calls Tryz.prog 96 #[.pointer (some ⟨B,0,none⟩)] w (ItemPost m B w0 s ⟨p,its,op⟩):=by
 by_cases h41:s[p].toNat=41
 · exact rK m B w0 w s p its op h hs hp hg h41
 · by_cases h40:s[p].toNat=40
   · exact ur m B w0 w s p its op h hs hp hg h40
   · by_cases h34:s[p].toNat=34
     · exact ut m B w0 w s p its op h hs hp hg h34
     · exact uv m B w0 w s p its op h hs hp hg h41 h40 h34
end Go.Proofs.YtapdbeaoakcjeaaGreatDoor.Se
/- 'Parse' gK a whole text: for every text of at most 65536 bytes. -/
namespace Go.Proofs.YtapdbeaoakcjeaaGreatDoor.Se
open Go.RowKit
def dw (s:ByteArray) (p:Nat):Nat:=p+Sx.skipN false (s.data.toList.drop p)
theorem nF (s:ByteArray) (p:Nat) (h:p≤s.size):dw s p≤s.size:=by
 unfold dw;have:=Sx.skipN_le (s.data.toList.drop p) false;rw[List.length_drop,de] at this
 omega
def cT (s:ByteArray):Nat→PSt→Except (Nat×Int) PSt
 | 0,st=>.ok st
 | n+1,st=>if st.pos<s.size then (match dG s st with | .ok x=>cT s n ⟨dw s x.pos,x.its,x.op⟩ | .error e=>.error e) else .ok st
def mj (s:ByteArray):List It×Nat×Int:=
 match cT s (s.size+1) ⟨dw s 0,[],[]⟩ with
 | .error (a,k)=>([],a,k)
 | .ok st=>if st.op=[] then (st.its,0,0) else ([],s.size,2)
theorem fO {st x:PSt} {kind:Int} {text:ByteArray} {q p:Nat} (h:cW st kind text q p=.ok x):x.pos=p∧x.its=eB st.its st.op.getLast? ++[⟨kind,text,0,q⟩]∧x.op=st.op:=by
 unfold cW at h
 split at h
 · cases h
 · cases h;exact ⟨rfl,rfl,rfl⟩
theorem uw (s:ByteArray) (p:Nat) (h:Sx.wkind (s.extract p (p+dh s p)).data.toList≠0):0<dh s p:=by
 rcases Nat.eq_zero_or_pos (dh s p) with h0 | h0
 · exfalso
   apply h;rw[h0,Nat.add_zero]
   have:(s.extract p p).data.toList=[]:=by
    have:=de (s.extract p p);rw[ByteArray.size_extract] at this;exact List.length_eq_zero_iff.1 (by omega)
   rw[this];rfl
 · exact h0
theorem qg (s:ByteArray) (p:Nat) (its:List It) (op:List Nat) (hp:p<s.size) (x:PSt) (h:dG s ⟨p,its,op⟩=.ok x):p<x.pos∧x.pos≤s.size:=by
 rw[ev s p its op hp] at h
 split at h
 · split at h
   · cases h
   · cases h;exact ⟨by simp,by simp;omega⟩
 · split at h
   · cases e:cW ⟨p,its,op⟩ 5 ⟨#[]⟩ p (p+1) with
     | error z=>rw[e] at h;cases h
     | ok y=>rw[e] at h;cases h;obtain ⟨hy,_⟩:=fO e;simp only[hy];omega
   · split at h
     · cases e:Sx.textN (s.data.toList.drop (p+1)) with
       | none=>rw[e] at h;cases h
       | some t=>
         rw[e] at h;obtain ⟨hy,_⟩:=fO h;have:=(Sx.textN_le _ _ (ag _) t e).1;rw[List.length_drop,de] at this
         omega
     · split at h
       · cases h
       · rename_i hk
         obtain ⟨hy,_⟩:=fO h;have:=uw s p hk;have:=vX s p
         omega
theorem ux (its:List It) (o:Option Nat) (n:Nat) (h:∀x∈its,0≤x.kids∧x.kids≤n):∀x∈eB its o,0≤x.kids∧x.kids≤n+1:=by
 intro x hx;cases o with
 | none=>have:=h x hx;omega
 | some i=>
   simp only[eB] at hx;obtain ⟨j,hj,hjx⟩:=List.mem_iff_getElem.1 hx;rw[List.getElem_modify] at hjx;rw[List.length_modify] at hj;have:=h its[j] (List.getElem_mem hj)
   split at hjx
   · subst hjx;simp only[It.bump];omega
   · subst hjx;omega
theorem mm {p:Nat} {its:List It} {op:List Nat} (h:Good p its op) (y:It) (hy:y.kids=0) {p':Nat} (hp:p<p'):Good p' (eB its op.getLast? ++[y]) op:=by
 have hl:=jE its op.getLast?;refine ⟨fun i hi=>?_,fun x hx=>?_,?_,?_⟩
 · rw[aA,hl];have:=h.inop i hi;simp;omega
 · rw[aA,hl];simp only[List.mem_append,List.mem_singleton] at hx;rcases hx with hx | rfl
   · have:=ux its op.getLast? its.length (fun z hz=>h.kids z hz) x hx
     simp;omega
   · rw[hy];simp;omega
 · rw[aA,hl];have:=h.few;simp;omega
 · rw[aA,hl];have:=h.opn;simp;omega
theorem uy (s:ByteArray) (p:Nat) (its:List It) (op:List Nat) (hp:p<s.size) (hg:Good p its op) (x:PSt) (h:dG s ⟨p,its,op⟩=.ok x):Good x.pos x.its x.op:=by
 have hpos:=qg s p its op hp x h;rw[ev s p its op hp] at h
 split at h
 · split at h
   · cases h
   · cases h
     refine ⟨fun i hi=>hg.inop i ((List.dropLast_sublist op).subset hi),hg.kids,aC hg.few (by simp),?_⟩;have:=hg.opn;simp only[List.length_dropLast];omega
 · split at h
   · cases e:cW ⟨p,its,op⟩ 5 ⟨#[]⟩ p (p+1) with
     | error z=>rw[e] at h;cases h
     | ok y=>
       rw[e] at h;cases h;obtain ⟨h1,h2,h3⟩:=fO e;have hg2:=mm hg ⟨5,⟨#[]⟩,0,p⟩ rfl (p':=y.pos) (by omega);rw[←h2] at hg2;have hlen:y.its.length=its.length+1:=by rw[h2,aA,jE];rfl
       refine ⟨fun i hi=>?_,hg2.kids,hg2.few,?_⟩
       · simp only[List.mem_append,List.mem_singleton,h3] at hi;rcases hi with hi | rfl
         · exact hg2.inop i hi
         · simp only[hlen];omega
       · simp only[aA,aK,h3,hlen];have:=hg.opn;omega
   · split at h
     · cases e:Sx.textN (s.data.toList.drop (p+1)) with
       | none=>rw[e] at h;cases h
       | some t=>
         rw[e] at h;obtain ⟨h1,h2,h3⟩:=fO h;rw[h2,h3];exact mm hg _ rfl hpos.1
     · split at h
       · cases h
       · obtain ⟨h1,h2,h3⟩:=fO h;rw[h2,h3];exact mm hg _ rfl hpos.1
theorem uz {s:ByteArray} {p:Nat} {its:List It} {op:List Nat} (h:Good p its op):Good (dw s p) its op:=⟨h.inop,h.kids,aC h.few (by unfold dw;omega),h.opn⟩
def parseT (s:ByteArray):List It×Nat×Int:=if 65536<s.size then ([],0,6) else mj s
theorem dt {w:World} {b b':Nat} {e:TypeId} {z:Nat} {v:Value} {n:Nat} {xs:List Value} (h:w.ownsRow b e z v n xs) (hb:b'≤b):w.ownsRow b' e z v n xs:=by
 obtain ⟨hl,h0 | ⟨g,cap,cur,hv,hg,r⟩⟩:=h
 · exact ⟨hl,.inl h0⟩
 · exact ⟨hl,.inr ⟨g,cap,cur,hv,by omega,r⟩⟩
def ParsePost (w:World) (r:List It×Nat×Int) (e:Ending) (w':World):Prop:=
 ∃v,e=.returned (.tuple #[v,.int .i64 r.2.1,.int .i64 r.2.2])∧w'.ownsRow w.heap.size 88 4 v r.1.length (hJ r.1)∧Below w.heap.size w w'
theorem ParsePost.nil_of {w:World} {r:List It×Nat×Int} {w':World} {a:Nat} {k:Int} (h:r=([],a,k)) (hb:Below w.heap.size w w'):ParsePost w r (.returned (.tuple #[.slice none 0 0,.int .i64 a,.int .i64 k])) w':=by
 subst h;exact ⟨_,rfl,World.ownsRow_nil _ _ _ _,hb⟩
theorem ParsePost.of {w:World} {r:List It×Nat×Int} {w':World} {its:List It} {v:Value} (h:r=(its,0,0)) (hr:w'.ownsRow w.heap.size 88 4 v its.length (hJ its)) (hb:Below w.heap.size w w'):ParsePost w r (.returned (.tuple #[v,.int .i64 0,.int .i64 0])) w':=by
 subst h;exact ⟨_,rfl,hr,hb⟩
theorem x7 (m:Int) (w:World) (s:ByteArray) (hB:0<w.heap.size) (hM:w.cell? ⟨0,0,none⟩=some (.int .i64 m)):Inv m w.heap.size w (w.alloc (.cells #[.string s,.int .i64 0,.slice none 0 0,.slice none 0 0] 121)) s 0 [] []:=
 ⟨⟨.slice none 0 0,.slice none 0 0,⟨by show (w.heap.push _)[w.heap.size]? =_;simp,World.ownsRow_nil _ _ _ _,World.ownsRow_nil _ _ _ _⟩⟩,(ah _ _).alloc (ag _) _,by simp,hB,(World.cell?_alloc_past _ _ _ (by exact hB)).trans hM⟩
theorem vZ (p:Nat):Good p [] []:=⟨by simp,by simp,by simp,by simp⟩
theorem ki {st:PSt} {kind:Int} {text:ByteArray} {q p a:Nat} {k:Int} (h:cW st kind text q p=.error (a,k)):k=6:=by
 unfold cW at h
 split at h
 · cases h;rfl
 · cases h
theorem wd (s:ByteArray) (p:Nat) (its:List It) (op:List Nat) (hp:p<s.size) (a:Nat) (k:Int) (h:dG s ⟨p,its,op⟩=.error (a,k)):k≠0:=by
 rw[ev s p its op hp] at h
 split at h
 · split at h
   · cases h;decide
   · cases h
 · split at h
   · cases e:cW ⟨p,its,op⟩ 5 ⟨#[]⟩ p (p+1) with
     | error z=>rw[e] at h;cases h;rw[ki e];decide
     | ok y=>rw[e] at h;cases h
   · split at h
     · cases e:Sx.textN (s.data.toList.drop (p+1)) with
       | none=>rw[e] at h;cases h;decide
       | some t=>rw[e] at h;rw[ki h];decide
     · split at h
       · cases h;decide
       · rw[ki h];decide
theorem parse_any (m:Int) (s:ByteArray) (w:World) (hB:0<w.heap.size) (hM:w.cell? ⟨0,0,none⟩=some (.int .i64 m)):
    Calls Tryz.prog 54 #[.string s] w (ParsePost w (parseT s)):=by
 by_cases hbig:65536<s.size
 · have HT:=hid (show parseT s=([],0,6) by unfold parseT;rw[if_pos hbig])
   go_enter Tryz.func54,Tryz.ntmps54
   go_wp2
   go_ret3
   exact ParsePost.nil_of HT.out (ah _ _)
 · have HT:=hid (show parseT s=mj s by unfold parseT;rw[if_neg hbig]);have HN:=hid (x7 m w s hB hM);have hs2:s.size≤65536:=by omega
   clear hM
   go_enter Tryz.func54,Tryz.ntmps54
   go_wp2_with (go_at_call 95;refine (p8 m _ w _ s 0 [] [] HN.out (by unfold maxLen;omega) (by omega)).mono ?_;rintro e w1 ⟨rfl,hi1⟩;have HI1:=hid hi1;clear hi1)
   generalize hb:w.heap.size=B at *;have HB:=hid hb;clear hb
   go_loopw [6,7] (fun _ _ wr=>∃(n k:Nat) (its:List It) (op:List Nat),k≤s.size∧s.size-k<n∧Inv m B w wr s k its op∧Good k its op∧cT s n ⟨k,its,op⟩=cT s (s.size+1) ⟨dw s 0,[],[]⟩)
    (fun _ _ wr=>s.size-(match wr.cell? ⟨B,1,none⟩ with | some (.int _ k)=>k.toNat | _=>0))
   case atStart=>exact ⟨s.size+1,dw s 0,[],[],nF s 0 (by omega),by omega,HI1.out,vZ _,rfl⟩
   case round=>
    obtain ⟨n,k,its,op,hk,hn,hI,hG,hP⟩:=hrel;have hat:=hI.cellAt;obtain ⟨vi,vo,hr⟩:=hI.rd;have h3:=hr.ops;have h2:=hr.its;have HI:=hid hI;have HG:=hid hG;have HP:=hid hP;have HR:=hid hr;clear hI hG hP hr;obtain ⟨n,rfl⟩:∃n',n=n'+1:=⟨n-1,by omega⟩
    by_cases hlt:k<s.size
    · have hit:=vY m B w wr s k its op HI.out hs2 hlt HG.out;cases e:dG s ⟨k,its,op⟩ with
      | ok x=>
        have hpos:=qg s k its op hlt x e;have hG2:=hid (uz (s:=s) (uy s k its op hlt HG.out x e));have HP2:Hid (cT s n ⟨dw s x.pos,x.its,x.op⟩=cT s (s.size+1) ⟨dw s 0,[],[]⟩):=hid (by rw[←HP.out];simp only[cT];rw[if_pos hlt,e]);have hsk:=nF s x.pos hpos.2;have hsk2:x.pos≤dw s x.pos:=by unfold dw;omega
        unfold ItemPost at hit;rw[e] at hit;clear e HP HG HR
        go_wp2_with (first
         | (go_at_call 96;refine hit.mono ?_;rintro e w2 ⟨rfl,hi2⟩;have HI2:=hid hi2;clear hi2)
         | (go_at_call 95;refine (p8 m B w _ s x.pos x.its x.op HI2.out (by unfold maxLen;omega) hpos.2).mono ?_;rintro e w3 ⟨rfl,hi3⟩;have HI3:Hid (Inv m B w w3 s (dw s x.pos) x.its x.op):=hid hi3;clear hi3))
        go_roundw
        case rel=>exact ⟨n,dw s x.pos,x.its,x.op,hsk,by omega,HI3.out,hG2.out,HP2.out⟩
        case measure=>
         rw[HI3.out.cellAt,hat];show s.size-(dw s x.pos:Int).toNat<s.size-(k:Int).toNat
         omega
      | error y=>
        obtain ⟨a,kk⟩:=y;have hkk:(kk !=0)=true:=by simpa using wd s k its op hlt a kk e
        have HF:Hid (parseT s=([],a,kk)):=hid (by
         rw[HT.out];unfold mj;rw[←HP.out];simp only[cT];rw[if_pos hlt,e])
        unfold ItemPost at hit;rw[e] at hit;clear e HP HG HR
        go_wp2_with (go_at_call 96;refine hit.mono ?_;rintro e w2 ⟨rfl,hb2⟩)
        go_ret3
        exact ParsePost.nil_of HF.out (by rw[HB.out];exact hb2)
    · obtain ⟨ao,co,hvo⟩:=bL HR.out.rowo;rw[hvo] at h3;have hPL:Hid (cT s (s.size+1) ⟨dw s 0,[],[]⟩=.ok ⟨k,its,op⟩):=hid (by rw[←HP.out];simp only[cT];rw[if_neg hlt])
      by_cases hop:op=[]
      · have HF:Hid (parseT s=(its,0,0)):=hid (by rw[HT.out];unfold mj;rw[hPL.out];simp[hop]);have hol:¬0<op.length:=by rw[hop];simp
        clear hop hvo
        go_wp2_with fail
        go_ret3
        exact ParsePost.of HF.out (by rw[HB.out];exact dt HR.out.rowi (by omega)) (by rw[HB.out];exact HI.out.below)
      · have HF:Hid (parseT s=([],s.size,2)):=hid (by rw[HT.out];unfold mj;rw[hPL.out];simp[hop]);have hol:0<op.length:=List.length_pos_iff.2 hop;clear hop hvo
        go_wp2_with fail
        go_ret3
        exact ParsePost.nil_of HF.out (by rw[HB.out];exact HI.out.below)
end Go.Proofs.YtapdbeaoakcjeaaGreatDoor.Se

/- Bytes and texts in memory, for the reference's walks. -/
import Derived.Test.YtapdbeaoakcjeaaGreatDoorENC
import Derived.Deep.DeepCutAuto
import Derived.Deep.RegionHeld3
import Derived.Deep.LoopGhost
import Derived.StillTailTactics
set_option maxRecDepth 100000
set_option maxHeartbeats 40000000
open Go.Lib (hid)
namespace Go.Proofs.YtapdbeaoakcjeaaGreatDoor.Rf
open Go.RowKit Nmx
theorem size_data (s:ByteArray):s.data.toList.length=s.size:=by rw[Array.length_toList];rfl
theorem ex_data (s:ByteArray) (a b:Nat):(s.extract a b).data.toList=(s.data.toList.drop a).take (b-a):=by
 rw[ByteArray.data_extract,Array.toList_extract]
theorem isE (s:ByteArray):s.toList.isEmpty=decide (s.size=0):=by
 rw[ByteArray.toList_eq,←size_data];cases s.data.toList <;> simp
theorem byte_at (s:ByteArray) (k:Nat) (h:k<s.size):s.data.toList[k]? =some s[k]:=by
 rw[aq (by rw[size_data];exact h)];rfl
theorem take_all (s:ByteArray) (k:Nat) (h:k<s.size) (ha:(s.data.toList.take k).all isD=true) (hc:isD s[k]=true):(s.data.toList.take (k+1)).all isD=true:=by
 rw[List.take_add_one,byte_at s k h,List.all_append,ha];simpa using hc
theorem not_all (s:ByteArray) (k:Nat) (h:k<s.size) (hc:isD s[k]=false):s.data.toList.all isD=false:=by
 rw[List.all_eq_false];exact ⟨s[k],List.mem_of_getElem? (byte_at s k h),by rw[hc];simp⟩
def bcs (l:List UInt8):List Value:=l.map fun b=>Value.int .u8 (b.toNat:Int)
theorem infoU8:(Tryz.prog.info? 5).map (fun i=>(i.zero,i.size,i.bytes))=some (some (.int .u8 0),1,1):=by kernel_rfl
theorem sz_txt (l:List UInt8):(⟨l.toArray⟩:ByteArray).size=l.length:=by simp[ByteArray.size]
end Go.Proofs.YtapdbeaoakcjeaaGreatDoor.Rf
namespace Go.Proofs.YtapdbeaoakcjeaaGreatDoor
open Go.RowKit Nmx
open Rf
theorem xQ (l:List UInt8) (i:Nat) (c:UInt8):(bcs l).toArray.setIfInBounds i (.int .u8 (c.toNat:Int))=(bcs (l.set i c)).toArray:=by
 simp[bcs,List.map_set]
theorem yY (l:List UInt8) (i:Nat) (hi:i<l.length):(bcs l)[i]? =some (.int .u8 ((l.getD i 0).toNat:Int)):=by
 simp[bcs,List.getD_eq_getElem?_getD,hi]
def BR (w:World) (g:Nat) (l:List UInt8):Prop:=w.heap[g]? =some (.cells (bcs l).toArray 5 (0,0))
theorem BR.set {w:World} {g:Nat} {l:List UInt8} (h:BR w g l) (i:Nat) (c:UInt8) (z:Int) (hz:z=c.toNat):BR (w.setCell ⟨g,i,none⟩ (.int .u8 z)) g (l.set i c):=by
 subst hz;unfold BR;rw[←xQ];exact heap_set h i _
theorem BR.cell {w:World} {g:Nat} {l:List UInt8} (h:BR w g l) (i:Nat) (hi:i<l.length):w.cell? ⟨g,i,none⟩=some (.int .u8 ((l.getD i 0).toNat:Int)):=by
 rw[ac h i];simpa using yY l i hi
theorem BR.fz {w:World} {g:Nat} {l:List UInt8} (h:BR w g l) (i:Nat):w.frozen? ⟨g,i,none⟩=false:=aM h i
theorem BR.new (w:World) (l:List UInt8):BR (w.alloc (.cells (bcs l).toArray 5)) w.heap.size l:=heap_alloc_new w _
theorem BR.far {w w':World} {g:Nat} {l:List UInt8} (h:BR w g l) (hb:Below w.heap.size w w'):BR w' g l:=(hb.block g (ay h)).trans h
theorem xR (n:Nat):madeCells (Value.cells (.int .u8 0)) (n*1)=(bcs (List.replicate n 0)).toArray:=by
 apply Array.ext
 · simp[madeCells,bcs]
 · intro i h1 h2
   simp[madeCells,bcs,Value.cells,Nat.mod_one]
theorem rD (n:Nat) (hn:n≤1000000000) (z:Int) (hz:z=n) (W:World):
    (Instr.makeSlice 79 (.int .i64 z) (.int .i64 z)).run Tryz.prog W=.ok (.slice (some ⟨W.heap.size,0,none⟩) n n) (W.alloc (.cells (bcs (List.replicate n 0)).toArray 5)):=by
 subst hz;obtain ⟨i0,hi,hz0,hz1,hz2⟩:=info_parts infoU8;have hr:=run_make (P:=Tryz.prog) W 79 5 i0 _ Tryz.underlying79 hi hz0 .i64 .i64 n n (by omega) (by omega) (by rw[hz2];omega) (by omega);rw[hz1,Int.toNat_natCast,xR] at hr;exact hr
theorem mc {w:World} {g:Nat} {l:List UInt8} (h:BR w g l) (n:Nat) (hn:n=l.length):Sem.run Tryz.prog (convert 79 9 (.slice (some ⟨g,0,none⟩) n n)) w=.ok (.string ⟨l.toArray⟩) w:=by
 subst hn
 exact run_convert_bytes_back (P:=Tryz.prog) w 79 9 5 ⟨g,0,none⟩ l.length l Tryz.underlying79 Tryz.underlying5 Tryz.underlying9 (fun j hj=>by
  rw[Addr.add_lit];show w.cell? ⟨g,0+j,none⟩=_
  rw[Nat.zero_add,h.cell j hj,aw,aq hj,Option.getD_some])
theorem sT:∀(x y:List UInt8),Op.bytesLess x y=decide (x<y)
 | [],[]=>by simp[Op.bytesLess]
 | _::_,[]=>by simp[Op.bytesLess]
 | [],_::_=>by simp[Op.bytesLess]
 | a::x,b::y=>by
   rw[Op.bytesLess,sT x y,Bool.eq_iff_iff]
   simp[List.cons_lt_cons_iff]
def jw (l:List UInt8):Bool:=l.all isD && decide (l≠[])
theorem dR (s:ByteArray) (l:List UInt8) (h:s.data.toList=l):s=⟨l.toArray⟩:=by
 apply ByteArray.ext;apply Array.toList_inj.1;rw[h]
section
theorem bd (s:ByteArray) (w:World) (hs:s.size≤1000000000):Calls Tryz.prog 148 #[.string s] w fun e w'=>e=.returned (.bool (jw s.data.toList))∧w'=w:=by
 have HN:Hid (s.data.toList=[] ↔ s.size=0):=hid (by rw[←List.length_eq_zero_iff,size_data])
 go_enter Tryz.func148,Tryz.ntmps148
 go_wp2
 go_loop [3] (fun iv=>∃k:Nat,k≤s.size∧iv=.int .i64 k∧(s.data.toList.take k).all isD=true) (fun iv=>s.size-(intOf iv).toNat)
 case atStart=>exact ⟨0,aE _,rfl,rfl⟩
 case round=>
  obtain ⟨k,hk,rfl,ha⟩:=hrel;have HA:=hid ha;clear ha
  by_cases hlt:k<s.size
  · by_cases hd:isD s[k]=true
    · have h1:¬(s[k].toNat:Int)<48:=by have:=bW.1 hd;omega
      have h2:¬(57:Int)<(s[k].toNat:Int):=by have:=bW.1 hd;omega
      have HD:=hid (take_all s k hlt HA.out hd);clear hd
      go_wp2
      go_round
      case rel=>exact ⟨k+1,by omega,by go_num,HD.out⟩
      case measure=>simp[intOf];omega
    · have hd':isD s[k]=false:=by simpa using hd
      have HR:Hid (jw s.data.toList=false):=hid (by unfold jw;rw[not_all s k hlt hd'];rfl)
      by_cases h1:(s[k].toNat:Int)<48
      · clear hd hd'
        go_wp2
        go_ret
        exact ⟨ret_bool HR.out.symm,rfl⟩
      · have h2:(57:Int)<(s[k].toNat:Int):=by simp[isD] at hd';omega
        clear hd hd'
        go_wp2
        go_ret
        exact ⟨ret_bool HR.out.symm,rfl⟩
  · have hall:s.data.toList.all isD=true:=by
      have:=HA.out;rwa [aJ (by rw[size_data];omega)] at this
    have HR:Hid (jw s.data.toList= !(decide (s.size=0))):=hid (by
     unfold jw;rw[hall,Bool.true_and]
     by_cases h0:s.size=0
     · rw[decide_eq_true h0,decide_eq_false (by rw[ne_eq,HN.out];exact fun h=>h h0)];rfl
     · rw[decide_eq_false h0,decide_eq_true (by rw[ne_eq,HN.out];exact h0)];rfl)
    clear hall
    go_wp2
    go_ret
    exact ⟨ret_bool (by rw[HR.out,isE]),rfl⟩
theorem md (l:List UInt8) (h:¬(1<l.length∧l.headD 0=48)):bU l=l:=by
 match l,h with
 | [],_=>rfl
 | [c],_=>rfl
 | c::d::r,h=>
   unfold bU;exact if_neg (fun e=>h ⟨by simp,e⟩)
theorem vJ (l:List UInt8) (h1:1<l.length) (h:l.headD 0=48):bU l=bU l.tail:=by
 match l,h1,h with
 | c::d::r,_,h=>
   conv=>lhs;unfold bU
   exact if_pos h
theorem pP (t:ByteArray) (h:0<t.size):t.data.toList.headD 0=t[0]:=by
 rw[List.headD_eq_head?_getD,List.head?_eq_getElem?,byte_at t 0 h];rfl
theorem bq (s:ByteArray) (w:World) (hs:s.size≤1000000000):Calls Tryz.prog 149 #[.string s] w fun e w'=>e=.returned (.string ⟨(bU s.data.toList).toArray⟩)∧w'=w:=by
 go_enter Tryz.func149,Tryz.ntmps149
 go_wp2
 go_loop [0] (fun v=>∃t:ByteArray,v=.string t∧t.size≤1000000000∧bU t.data.toList=bU s.data.toList) (fun v=>match v with | .string t=>t.size | _=>0)
 case atStart=>exact ⟨s,rfl,hs,rfl⟩
 case round=>
  obtain ⟨t,rfl,ht,hr⟩:=hrel;have HR:=hid hr;clear hr
  by_cases h1:1<t.size
  · have h1i:(1:Int)<(t.size:Int):=by omega
    have hh:=pP t (by omega)
    by_cases h48:t[0]=48
    · have h48i:((t[0].toNat:Int)==48)=true:=by rw[h48];rfl
      have HS:Hid (bU (t.extract 1 t.size).data.toList=bU s.data.toList):=hid (by
       rw[←HR.out,vJ t.data.toList (by rw[size_data];exact h1) (by rw[hh,h48]),ex_data,aJ (by rw[List.length_drop,size_data];exact ag _),List.drop_one])
      have hsz:(t.extract 1 t.size).size=t.size-1:=by rw[ByteArray.size_extract];omega
      clear hh h48
      go_wp2
      go_round
      case rel=>exact ⟨_,rfl,by rw[hsz];omega,HS.out⟩
      case measure=>simp only[hsz];omega
    · have h48i:((t[0].toNat:Int)==48)=false:=by
        simp only[beq_eq_false_iff_ne,ne_eq];intro e;exact h48 (UInt8.toNat_inj.1 (by have:(48:UInt8).toNat=48:=rfl;omega))
      have HS:Hid (t=⟨(bU s.data.toList).toArray⟩):=hid (dR _ _ (by rw[←HR.out,md _ (by rw[hh];exact fun h=>h48 h.2)]));clear hh h48
      go_wp2
      go_ret
      exact ⟨bY HS.out,rfl⟩
  · have h1i:¬(1:Int)<(t.size:Int):=by omega
    have HS:Hid (t=⟨(bU s.data.toList).toArray⟩):=hid (dR _ _ (by rw[←HR.out,md _ (by rw[size_data];exact fun h=>h1 h.1)]))
    go_wp2
    go_ret
    exact ⟨bY HS.out,rfl⟩
theorem fj (s:ByteArray) (w:World) (hs:s.size≤1000000000):Calls Tryz.prog 149 #[.string s] w fun e w'=>e=.returned (.string ⟨(bU s.data.toList).toArray⟩)∧Below w.heap.size w w':=
 (bq s w hs).mono fun _ _ h=>⟨h.1,by rw[h.2];exact ah _ _⟩
theorem mM (s t:ByteArray) (x y:Nat) (w:World) (hs:s.data.toList=aP x) (ht:t.data.toList=aP y):Calls Tryz.prog 186 #[.string s,.string t] w fun e w'=>e=.returned (.int .i64 (iH x y))∧Below w.heap.size w w':=by
 have hm:=yP x y;have hls:s.size=(aP x).length:=by rw[←hs,size_data]
 have hlt:t.size=(aP y).length:=by rw[←ht,size_data]
 have hbl:Op.bytesLess s.toList t.toList=decide (aP x<aP y):=by rw[ByteArray.toList_eq,ByteArray.toList_eq,sT,hs,ht]
 have heq:x≠y→¬s.toList=t.toList:=fun hne e=>hne (je (by rw[←hs,←ht,←ByteArray.toList_eq,e,ByteArray.toList_eq]))
 rcases Nat.lt_trichotomy x y with h | h | h
 · rw[decide_eq_true h] at hm;have HC:=hid (iq h);clear h
   by_cases h1:s.size<t.size
   · have h1i:(s.size:Int)<(t.size:Int):=by omega
     clear hm hls hlt
     go_enter Tryz.func186,Tryz.ntmps186
     go_wp2
     go_ret
     exact ⟨ret_int HC.out.symm,ah _ _⟩
   · have h1i:¬(s.size:Int)<(t.size:Int):=by omega
     rw[←hls,←hlt,decide_eq_false h1,Bool.false_or,Bool.and_eq_true,decide_eq_true_eq] at hm;have h2:((s.size:Int)==(t.size:Int))=true:=by simp;omega
     rw[hm.2] at hbl;clear hm hls hlt
     go_enter Tryz.func186,Tryz.ntmps186
     go_wp2
     go_ret
     exact ⟨ret_int HC.out.symm,ah _ _⟩
 · have HC:=hid (ir h);subst h;have hst:s=t:=(dR _ _ hs).trans (dR _ _ ht).symm;subst hst;clear heq;have h1i:¬(s.size:Int)<(s.size:Int):=by omega
   have h2:((s.size:Int)==(s.size:Int))=true:=by simp
   have hll:decide (aP x<aP x)=false:=decide_eq_false (by rw[u6 _ _ rfl (bf x) (bf x)];omega);rw[hll] at hbl;clear hm hls hlt
   go_enter Tryz.func186,Tryz.ntmps186
   go_wp2
   go_ret
   exact ⟨ret_int HC.out.symm,ah _ _⟩
 · rw[decide_eq_false (show ¬x<y by omega)] at hm;have hne:(s.toList==t.toList)=false:=by simpa using heq (by omega)
   clear heq;have HC:=hid (f7 h);rw[←hls,←hlt,Bool.or_eq_false_iff,decide_eq_false_iff_not] at hm;obtain ⟨h1,h2⟩:=hm;have h1i:¬(s.size:Int)<(t.size:Int):=by omega
   by_cases h3:s.size=t.size
   · have h3i:((s.size:Int)==(t.size:Int))=true:=by simp;omega
     rw[decide_eq_true h3,Bool.true_and] at h2;rw[h2] at hbl;clear hls hlt h1 h2 h3 h
     go_enter Tryz.func186,Tryz.ntmps186
     go_wp2
     go_ret
     exact ⟨ret_int HC.out.symm,ah _ _⟩
   · have h3i:((s.size:Int)==(t.size:Int))=false:=by simp;omega
     clear hls hlt h1 h2 h3 h
     go_enter Tryz.func186,Tryz.ntmps186
     go_wp2
     go_ret
     exact ⟨ret_int HC.out.symm,ah _ _⟩
end
end Go.Proofs.YtapdbeaoakcjeaaGreatDoor
namespace Go.Proofs.YtapdbeaoakcjeaaGreatDoor
open Go.RowKit Nmx
open Rf
theorem vK (s:ByteArray) (k:Nat) (hk:k<s.size):di s.data.toList k=(s[s.size-1-k]'(by omega)).toNat-48:=by
 have hl:=size_data s;rw[yy _ _ (by omega)];have:=byte_at s (s.size-1-k) (by omega);rw[List.getElem?_eq_some_iff] at this;obtain ⟨_,h⟩:=this;rw[←h];simp only[hl]
theorem jx (s:ByteArray) (h:s.data.toList.all isD=true) (k:Nat) (hk:k<s.size):48≤(s[k]).toNat∧(s[k]).toNat≤57:=by
 have:=byte_at s k hk;exact bW.1 (List.all_eq_true.1 h _ (List.mem_of_getElem? this))
end Go.Proofs.YtapdbeaoakcjeaaGreatDoor
namespace Go.Proofs.YtapdbeaoakcjeaaGreatDoor
open Go.RowKit Nmx
open Rf
section
theorem mN (s t:ByteArray) (x y:Nat) (w:World) (hs:s.data.toList=aP x) (ht:t.data.toList=aP y) (h1:s.size≤1000000) (hle:y≤x):Calls Tryz.prog 187 #[.string s,.string t] w fun e w'=>e=.returned (.string ⟨(aP (x-y)).toArray⟩)∧Below w.heap.size w w':=by
 have HDA:Hid (s.data.toList.all isD=true):=hid (by rw[hs];exact bf x);have HDB:Hid (t.data.toList.all isD=true):=hid (by rw[ht];exact bf y);have HV:Hid (dv s.data.toList=x∧dv t.data.toList=y):=hid (by rw[hs,ht,bX,bX];exact ⟨rfl,rfl⟩);have h0:0<s.size:=by rw[←size_data,hs];exact dn x
 have h2:t.size≤s.size:=by
  rw[←size_data,←size_data,hs,ht];rcases Nat.lt_or_ge (aP x).length (aP y).length with h | h
  · have:=lM h;omega
  · exact h
 have HLE:=hid hle;clear hs ht hle;have hmk:=rD s.size (by omega) (s.size:Int) rfl;have HST:=hid (BR.new w (List.replicate s.size 0));have HBE:Hid (Below w.heap.size w (w.alloc (.cells (bcs (List.replicate s.size 0)).toArray 5))):=hid ((ah _ _).alloc (ag _) _);have HS0:Hid (SubD s.data.toList t.data.toList (List.replicate s.size 0) s.size 0 0):=hid (SubD.start _ _ _ s.size List.length_replicate)
 go_enter Tryz.func187,Tryz.ntmps187
 go_wp2
 go_loopw [6,7] (fun c i wr=>∃(k cc:Nat) (q:List UInt8),k≤s.size∧i=.int .i64 k∧c=.int .i64 cc∧SubD s.data.toList t.data.toList q s.size k cc∧BR wr w.heap.size q∧Below w.heap.size w wr) (fun _ i _=>s.size-(intOf i).toNat)
 case atStart=>exact ⟨0,0,_,aE _,rfl,rfl,HS0.out,HST.out,HBE.out⟩
 case round=>
  obtain ⟨k,cc,q,hk,rfl,rfl,hadd,hbr,hbel⟩:=hrel;have HR:=hid hadd;have HW:=hid hbr;have HBl:=hid hbel;have hql:=hadd.len;have hc1:(cc:Int)≤1:=by have:=hadd.c1;omega
  have hc0:(0:Int)≤cc:=by omega
  clear hadd hbr hbel HST HBE HS0
  by_cases hlt:k<s.size
  · have hcw:=HW.out.cell (s.size-1-k) (by omega);have hfw:=HW.out.fz (s.size-1-k);have ai:(k:Int)<(s.size:Int):=by omega
    have a0:(0:Int)≤(s.size:Int)-1-(k:Int):=by omega
    have a1:((s.size:Int)-1-(k:Int)).toNat=s.size-1-k:=by omega
    have a2:(s.size:Int)-1-(k:Int)<(s.size:Int):=by omega
    have hda:=jx s HDA.out (s.size-1-k) (by omega);have HDI:=hid (vK s k hlt);generalize q.getD (s.size-1-k) 0=z at *;have HSP:Hid (∀u c',u+cc+di t.data.toList k=di s.data.toList k+10*c'→u<10→c'≤1→SubD s.data.toList t.data.toList (q.set (s.size-1-k) (dg u)) s.size (k+1) c'):=hid (fun u c' hu h10 hc=>HR.out.step hlt u c' hu h10 hc)
    by_cases hb:k<t.size
    · have bi:(k:Int)<(t.size:Int):=by omega
      have b0:(0:Int)≤(t.size:Int)-1-(k:Int):=by omega
      have b1:((t.size:Int)-1-(k:Int)).toNat=t.size-1-k:=by omega
      have b2:(t.size:Int)-1-(k:Int)<(t.size:Int):=by omega
      have hdb:=jx t HDB.out (t.size-1-k) (by omega);have HDJ:=hid (vK t k hb)
      by_cases hneg:((s[s.size-1-k].toNat:Int)-48)-(cc:Int)-((t[t.size-1-k].toNat:Int)-48)<0
      · obtain ⟨u,hu⟩:∃u:Nat,((s[s.size-1-k].toNat:Int)-48)-(cc:Int)-((t[t.size-1-k].toNat:Int)-48)+10=(u:Int):=⟨(((s[s.size-1-k].toNat:Int)-48)-(cc:Int)-((t[t.size-1-k].toNat:Int)-48)+10).toNat,by omega⟩
        have hu10:u<10:=by omega
        have HST:=hid (HSP.out u 1 (by have h1:=HDI.out;have h2:=HDJ.out;omega) hu10 (by omega));have HDG:Hid ((48+u:Int)=((dg u).toNat:Int)):=hid (by rw[bT hu10];omega)
        go_wp2
        try rw[hu]
        exact ⟨⟨k+1,1,q.set (s.size-1-k) (dg u),by omega,by go_num,rfl,HST.out,HW.out.set _ _ _ HDG.out,HBl.out.setCell (ag _) _⟩,by simp[intOf];omega⟩
      · obtain ⟨u,hu⟩:∃u:Nat,((s[s.size-1-k].toNat:Int)-48)-(cc:Int)-((t[t.size-1-k].toNat:Int)-48)=(u:Int):=⟨(((s[s.size-1-k].toNat:Int)-48)-(cc:Int)-((t[t.size-1-k].toNat:Int)-48)).toNat,by omega⟩
        have hu10:u<10:=by omega
        have HST:=hid (HSP.out u 0 (by have h1:=HDI.out;have h2:=HDJ.out;omega) hu10 (by omega));have HDG:Hid ((48+u:Int)=((dg u).toNat:Int)):=hid (by rw[bT hu10];omega)
        go_wp2
        try rw[hu]
        exact ⟨⟨k+1,0,q.set (s.size-1-k) (dg u),by omega,by go_num,rfl,HST.out,HW.out.set _ _ _ HDG.out,HBl.out.setCell (ag _) _⟩,by simp[intOf];omega⟩
    · have bi:¬(k:Int)<(t.size:Int):=by omega
      have HDJ:=hid (yO t.data.toList k (by rw[size_data];exact hb))
      by_cases hneg:((s[s.size-1-k].toNat:Int)-48)-(cc:Int)<0
      · obtain ⟨u,hu⟩:∃u:Nat,((s[s.size-1-k].toNat:Int)-48)-(cc:Int)+10=(u:Int):=⟨(((s[s.size-1-k].toNat:Int)-48)-(cc:Int)+10).toNat,by omega⟩
        have hu10:u<10:=by omega
        have HST:=hid (HSP.out u 1 (by have h1:=HDI.out;have h2:=HDJ.out;omega) hu10 (by omega));have HDG:Hid ((48+u:Int)=((dg u).toNat:Int)):=hid (by rw[bT hu10];omega)
        go_wp2
        try rw[hu]
        exact ⟨⟨k+1,1,q.set (s.size-1-k) (dg u),by omega,by go_num,rfl,HST.out,HW.out.set _ _ _ HDG.out,HBl.out.setCell (ag _) _⟩,by simp[intOf];omega⟩
      · obtain ⟨u,hu⟩:∃u:Nat,((s[s.size-1-k].toNat:Int)-48)-(cc:Int)=(u:Int):=⟨(((s[s.size-1-k].toNat:Int)-48)-(cc:Int)).toNat,by omega⟩
        have hu10:u<10:=by omega
        have HST:=hid (HSP.out u 0 (by have h1:=HDI.out;have h2:=HDJ.out;omega) hu10 (by omega));have HDG:Hid ((48+u:Int)=((dg u).toNat:Int)):=hid (by rw[bT hu10];omega)
        go_wp2
        try rw[hu]
        exact ⟨⟨k+1,0,q.set (s.size-1-k) (dg u),by omega,by go_num,rfl,HST.out,HW.out.set _ _ _ HDG.out,HBl.out.setCell (ag _) _⟩,by simp[intOf];omega⟩
  · obtain rfl:k=s.size:=by omega
    have HD:Hid (bU q=aP (x-y)):=hid (by rw[HR.out.done h0 (by rw[size_data];exact ag _) (by rw[size_data];exact h2) (by rw[HV.out.1,HV.out.2];exact HLE.out),HV.out.1,HV.out.2]);have hcv:=mc HW.out s.size hql.symm;have htr:=fj ⟨q.toArray⟩ wr (by rw[sz_txt];omega);rw[show (⟨q.toArray⟩:ByteArray).data.toList=q from rfl,HD.out] at htr
    go_wp2_with fail
    refine htr.mono ?_;rintro e w1 ⟨rfl,hb1⟩;have HB1:=hid (HBl.out.trans (hb1.mono HBl.out.size));clear hb1 htr hcv
    go_wp2
    go_ret
    exact ⟨rfl,HB1.out⟩
end
end Go.Proofs.YtapdbeaoakcjeaaGreatDoor
/- The reference's mulMag. -/
namespace Go.Proofs.YtapdbeaoakcjeaaGreatDoor
open Go.RowKit Nmx
open Rf
def kU (l:List Nat):List Value:=l.map fun (n:Nat)=>Value.int .i64 (n:Int)
theorem vL (l:List Nat) (i x:Nat):(kU l).toArray.setIfInBounds i (.int .i64 (x:Int))=(kU (l.set i x)).toArray:=by
 simp[kU,List.map_set]
theorem xS (l:List Nat) (i:Nat) (hi:i<l.length):(kU l)[i]? =some (.int .i64 ((l.getD i 0:Nat):Int)):=by
 simp[kU,List.getD_eq_getElem?_getD,hi]
def IR (w:World) (g:Nat) (l:List Nat):Prop:=w.heap[g]? =some (.cells (kU l).toArray 3 (0,0))
theorem IR.set {w:World} {g:Nat} {l:List Nat} (h:IR w g l) (i x:Nat) (z:Int) (hz:z=x):IR (w.setCell ⟨g,i,none⟩ (.int .i64 z)) g (l.set i x):=by
 subst hz;unfold IR;rw[←vL];exact heap_set h i _
theorem IR.cell {w:World} {g:Nat} {l:List Nat} (h:IR w g l) (i:Nat) (hi:i<l.length):w.cell? ⟨g,i,none⟩=some (.int .i64 ((l.getD i 0:Nat):Int)):=by
 rw[ac h i];simpa using xS l i hi
theorem IR.fz {w:World} {g:Nat} {l:List Nat} (h:IR w g l) (i:Nat):w.frozen? ⟨g,i,none⟩=false:=aM h i
theorem IR.new (w:World) (l:List Nat):IR (w.alloc (.cells (kU l).toArray 3)) w.heap.size l:=heap_alloc_new w _
theorem IR.far {w w':World} {g:Nat} {l:List Nat} (h:IR w g l) (hb:Below w.heap.size w w'):IR w' g l:=(hb.block g (ay h)).trans h
theorem infoInt:(Tryz.prog.info? 3).map (fun i=>(i.zero,i.size,i.bytes))=some (some (.int .i64 0),1,8):=by kernel_rfl
theorem vM (n:Nat):madeCells (Value.cells (.int .i64 0)) (n*1)=(kU (List.replicate n 0)).toArray:=by
 apply Array.ext
 · simp[madeCells,kU]
 · intro i h1 h2
   simp[madeCells,kU,Value.cells,Nat.mod_one]
theorem xT (n:Nat) (hn:n≤1000000000) (z:Int) (hz:z=n) (W:World):
    (Instr.makeSlice 23 (.int .i64 z) (.int .i64 z)).run Tryz.prog W=.ok (.slice (some ⟨W.heap.size,0,none⟩) n n) (W.alloc (.cells (kU (List.replicate n 0)).toArray 3)):=by
 subst hz;obtain ⟨i0,hi,hz0,hz1,hz2⟩:=info_parts infoInt;have hr:=run_make (P:=Tryz.prog) W 23 3 i0 _ Tryz.underlying23 hi hz0 .i64 .i64 n n (by omega) (by omega) (by rw[hz2];omega) (by omega);rw[hz1,Int.toNat_natCast,vM] at hr;exact hr
theorem rE (s:ByteArray) (k:Nat) (hk:k<s.size):fd s.data.toList k=(s[k]).toNat-48:=by
 have:=byte_at s k hk;unfold fd;rw[aw,this];rfl
section
theorem ed (s t:ByteArray) (x y:Nat) (w:World) (hs:s.data.toList=aP x) (ht:t.data.toList=aP y) (h1:s.size≤100000) (h2:t.size≤100000):Calls Tryz.prog 115 #[.string s,.string t] w fun e w'=>e=.returned (.string ⟨(aP (x*y)).toArray⟩)∧Below w.heap.size w w':=by
 have HDA:Hid (s.data.toList.all isD=true):=hid (by rw[hs];exact bf x);have HDB:Hid (t.data.toList.all isD=true):=hid (by rw[ht];exact bf y);have HV:Hid (dv s.data.toList=x∧dv t.data.toList=y):=hid (by rw[hs,ht,bX,bX];exact ⟨rfl,rfl⟩);have h0:0<s.size:=by rw[←size_data,hs];exact dn x
 clear hs ht;have hls:=size_data s;have hlt:=size_data t;have HLS:=hid hls;have HLT:=hid hlt;have HS0:=hid (MulD.start s.data.toList t.data.toList);rw[hls,hlt] at HS0;obtain ⟨n,hn⟩:∃n,s.size+t.size=n:=⟨_,rfl⟩
 have hni:(s.size:Int)+(t.size:Int)=(n:Int):=by omega
 have hn2:n≤200000:=by omega
 have HN:=hid hn;rw[hn] at HS0;clear hls hlt hn;have hmk:=xT n (by omega) (n:Int) rfl;have hmr:=rD n (by omega) (n:Int) rfl;have HST:=hid (IR.new w (List.replicate n 0));have HBE:Hid (Below w.heap.size w (w.alloc (.cells (kU (List.replicate n 0)).toArray 3))):=hid ((ah _ _).alloc (ag _) _)
 go_enter Tryz.func115,Tryz.ntmps115
 go_wp2
 go_loopw [6] (fun i wr=>∃(k:Nat) (L:List Nat),k≤s.size∧i=.int .i64 k∧MulD s.data.toList t.data.toList L k 0∧IR wr w.heap.size L∧Below w.heap.size w wr) (fun i _=>s.size-(intOf i).toNat)
 case atStart=>exact ⟨0,_,aE _,rfl,HS0.out,HST.out,HBE.out⟩
 case round=>
  obtain ⟨k,L,hk,rfl,hmu,hir,hbel⟩:=hrel;have HR:=hid hmu;have HW:=hid hir;have HBl:=hid hbel;clear hmu hir hbel HST HBE HS0
  by_cases hlt:k<s.size
  · have hda:=jx s HDA.out k hlt;have HDI:=hid (rE s k hlt)
    go_wp2
    go_loopw [7] (fun i wr=>∃(j:Nat) (L:List Nat),j≤t.size∧i=.int .i64 j∧MulD s.data.toList t.data.toList L k j∧IR wr w.heap.size L∧Below w.heap.size w wr) (fun i _=>t.size-(intOf i).toNat)
    case atStart=>exact ⟨0,_,aE _,rfl,HR.out,HW.out,HBl.out⟩
    case round=>
     clear HR HW HBl;obtain ⟨j,L,hj,rfl,hmu,hir,hbel⟩:=hrel;have HR:=hid hmu;have HW:=hid hir;have HBl:=hid hbel;have hln:L.length=n:=by rw[hmu.len,HLS.out,HLT.out,HN.out]
     have hle:=hmu.le;rw[HLT.out] at hle;clear hmu hir hbel
     by_cases hjt:j<t.size
     · have hdb:=jx t HDB.out j hjt;have HDJ:=hid (rE t j hjt);have hnn:=HN.out;have hcw:=HW.out.cell (k+j+1) (by omega);have hfw:=HW.out.fz (k+j+1);have HSP:=hid (HR.out.step HDA.out HDB.out (by rw[HLS.out];exact hlt) (by rw[HLT.out];exact hjt));have hbd:=hle (k+j+1);have hkt:k*t.size≤100000*100000:=Nat.mul_le_mul (by omega) h2;have q0:(0:Int)≤(k:Int)+(j:Int)+1:=by omega
       have q1:((k:Int)+(j:Int)+1).toNat=k+j+1:=by omega
       have q2:(k:Int)+(j:Int)+1<(n:Int):=by omega
       have HMUL:Hid (((s[k].toNat:Int)-48)*((t[j].toNat:Int)-48)=((fd s.data.toList k*fd t.data.toList j:Nat):Int)):=hid (by
        rw[HDI.out,HDJ.out,Int.natCast_mul];congr 1 <;> omega)
       have hm81:fd s.data.toList k*fd t.data.toList j≤9*9:=Nat.mul_le_mul (by have:=HDI.out;omega) (by have:=HDJ.out;omega);generalize fd s.data.toList k*fd t.data.toList j=p at *;generalize L.getD (k+j+1) 0=z at *;have hz1:(z:Int)≤1000000000000:=by omega
       have hz0:(0:Int)≤(z:Int):=by omega
       have hm:=HMUL.out;have hw1:IntKind.i64.wrap (p:Int)=(p:Int):=by rw[IntKind.wrap_i64];omega
       have hw2:IntKind.i64.wrap ((z:Int)+(p:Int))=(z:Int)+(p:Int):=by rw[IntKind.wrap_i64];omega
       have hw3:IntKind.i64.wrap ((k:Int)+(j:Int))=(k:Int)+(j:Int):=by rw[IntKind.wrap_i64];omega
       have hw4:IntKind.i64.wrap ((k:Int)+(j:Int)+1)=(k:Int)+(j:Int)+1:=by rw[IntKind.wrap_i64];omega
       have hw5:IntKind.u8.wrap ((s[k].toNat:Int)-48)=(s[k].toNat:Int)-48:=by rw[IntKind.wrap_u8];omega
       have hw6:IntKind.u8.wrap ((t[j].toNat:Int)-48)=(t[j].toNat:Int)-48:=by rw[IntKind.wrap_u8];omega
       have hw7:IntKind.i64.wrap ((s[k].toNat:Int)-48)=(s[k].toNat:Int)-48:=by rw[IntKind.wrap_i64];omega
       have hw8:IntKind.i64.wrap ((t[j].toNat:Int)-48)=(t[j].toNat:Int)-48:=by rw[IntKind.wrap_i64];omega
       clear hle hkt hbd hnn
       go_wp2
       go_still_tail 20,(by kernel_rfl)
       change wpList _ _ _ _ _ wr.drew;have HW2:Hid (IR wr.drew w.heap.size L):=hid HW.out;have HB2:Hid (Below w.heap.size w wr.drew):=hid HBl.out.drew;have hcw2:wr.drew.cell? ⟨w.heap.size,k+j+1,none⟩=some (.int .i64 (z:Int)):=hcw;have hfw2:wr.drew.frozen? ⟨w.heap.size,k+j+1,none⟩=false:=hfw;generalize wr.drew=w2 at *
       go_wp2
       exact ⟨⟨j+1,_,by omega,by go_num,HSP.out,HW2.out.set _ _ _ (by omega),HB2.out.setCell (ag _) _⟩,by simp[intOf];omega⟩
     · obtain rfl:j=t.size:=by omega
       have HNX:=hid (MulD.next (by have:=HR.out;rwa [←HLT.out] at this) (by rw[HLS.out];exact hlt))
       go_wp2
       go_roundw
       case rel=>exact ⟨k+1,_,by omega,by go_num,HNX.out,HW.out,HBl.out⟩
       case measure=>simp[intOf];omega
  · obtain rfl:k=s.size:=by omega
    have hln:L.length=n:=by rw[HR.out.len,HLS.out,HLT.out,HN.out]
    have hle:=HR.out.le;rw[HLT.out,Nat.add_zero] at hle
    have HVT:Hid (vt L=x*y):=hid (by
     have h:=HR.out;rw[←HLS.out] at h
     rw[h.done,HV.out.1,HV.out.2])
    have HLT10:Hid (vt L<10 ^ n):=hid (by
     rw[HVT.out,←HV.out.1,←HV.out.2,←HN.out,Nat.pow_add,←HLS.out,←HLT.out];have h1:=jd _ HDA.out;have h2:=jd _ HDB.out;rcases Nat.eq_zero_or_pos (dv t.data.toList) with h | h
     · rw[h,Nat.mul_zero];exact Nat.mul_pos (Nat.pow_pos (by omega)) (Nat.pow_pos (by omega))
     · exact Nat.mul_lt_mul_of_lt_of_le h1 (aI h2) (Nat.pow_pos (by omega)))
    have hst:s.size*t.size≤100000*100000:=Nat.mul_le_mul h1 h2;obtain ⟨M,hM⟩:∃M,81*(s.size*t.size)=M:=⟨_,rfl⟩
    rw[hM] at hle;have hM2:M≤810000000000:=by omega
    have HLE:=hid hle;have hn0:0<n:=by have:=HN.out;omega
    have hsz:=ay HW.out;have HBR:=hid (BR.new wr (List.replicate n 0));have HBA:Hid (Below wr.heap.size wr (wr.alloc (.cells (bcs (List.replicate n 0)).toArray 5))):=hid ((ah _ _).alloc (ag _) _);have HC0:=hid (CarD.start L (List.replicate n 0) n M List.length_replicate hln);clear hle hst hM HR;obtain ⟨wo,rfl⟩:∃wo:World,wo=wr:=⟨_,rfl⟩
    go_wp2
    go_loopw [9,10] (fun c i wr=>∃(m cc:Nat) (q:List UInt8),m≤n∧i=.int .i64 ((n:Int)-1-m)∧c=.int .i64 cc∧CarD L q n M m cc∧BR wr wo.heap.size q∧Below wo.heap.size wo wr) (fun _ i _=>(intOf i+1).toNat)
    case atStart=>exact ⟨0,0,_,aE _,by simp,rfl,HC0.out,HBR.out,HBA.out⟩
    case round=>
     clear HC0 HBR HBA;obtain ⟨m,cc,q,hm,rfl,rfl,hcar,hbr,hbel⟩:=hrel;have HR:=hid hcar;have HB:=hid hbr;have HBb:=hid hbel;have hql:=hcar.len;have hc1:=hcar.c1;clear hcar hbr hbel
     by_cases hmn:m<n
     · have hge:(0:Int)≤(n:Int)-1-(m:Int):=by omega
       have p1:((n:Int)-1-(m:Int)).toNat=n-1-m:=by omega
       have p2:(n:Int)-1-(m:Int)<(n:Int):=by omega
       have hcl:=(HW.out.far HBb.out).cell (n-1-m) (by omega);have hcw:=HB.out.cell (n-1-m) (by omega);have hfw:=HB.out.fz (n-1-m);have HSP:Hid (∀u,u=L.getD (n-1-m) 0+cc→CarD L (q.set (n-1-m) (dg (u % 10))) n M (m+1) (u / 10)):=hid (fun u hu=>HR.out.step hln HLE.out hmn u hu);have hv:=HLE.out (n-1-m);generalize q.getD (n-1-m) 0=z at *;generalize L.getD (n-1-m) 0=v at *;obtain ⟨u,hu⟩:∃u,v+cc=u:=⟨_,rfl⟩
       have hui:(v:Int)+(cc:Int)=(u:Int):=by omega
       have HST:=hid (HSP.out u hu.symm);have HDG:Hid ((48+(u:Int) % 10)=((dg (u % 10)).toNat:Int)):=hid (by rw[bT (Nat.mod_lt _ (by omega))];omega);have hu1:u≤2000000000000:=by omega
       clear hu HSP
       go_wp2
       exact ⟨⟨m+1,u / 10,q.set (n-1-m) (dg (u % 10)),by omega,by congr 1;omega,by go_num,HST.out,HB.out.set _ _ _ HDG.out,HBb.out.setCell (ag _) _⟩,by simp[intOf];omega⟩
     · obtain rfl:m=n:=by omega
       have hneg:¬(0:Int)≤(m:Int)-1-(m:Int):=by omega
       have HD:Hid (bU q=aP (x*y)):=hid (by rw[HR.out.done hn0 HLT10.out,HVT.out]);have hcv:=mc HB.out m hql.symm;have htr:=fj ⟨q.toArray⟩ wr (by rw[sz_txt];omega);rw[show (⟨q.toArray⟩:ByteArray).data.toList=q from rfl,HD.out] at htr
       go_wp2_with fail
       refine htr.mono ?_;rintro e w1 ⟨rfl,hb1⟩;have HB1:=hid (HBl.out.trans ((HBb.out.trans (hb1.mono HBb.out.size)).mono HBl.out.size));clear hb1 htr hcv
       go_wp2
       go_ret
       exact ⟨rfl,HB1.out⟩
end
end Go.Proofs.YtapdbeaoakcjeaaGreatDoor
namespace Go.Proofs.YtapdbeaoakcjeaaGreatDoor
open Go.RowKit Nmx
open Rf
theorem xU (l:List UInt8):(⟨l.toArray⟩:ByteArray).data.toList=l:=rfl
theorem pQ {R B n:Nat} (h:R<B) (hB:(aP B).length≤n):(aP R).length≤n:=by
 rcases Nat.lt_or_ge n (aP R).length with h1 | h1
 · have:=lM (m:=B) (n:=R) (by omega);omega
 · exact h1
theorem vO (r s:ByteArray) (k:Nat) (hk:k<s.size):(r++s.extract k (k+1)).data.toList=r.data.toList++[s[k]]:=by
 rw[ByteArray.data_append,Array.toList_append,ex_data]
 congr 1
 rw[Nat.add_sub_cancel_left,List.take_one,List.head?_drop,byte_at s k hk];rfl
def yA:Value→List UInt8
 | .string b=>b.data.toList
 | _=>[]
section
theorem fA (s t:ByteArray) (x y:Nat) (w:World) (hs:s.data.toList=aP x) (ht:t.data.toList=aP y) (h1:s.size≤100000) (h2:t.size≤100000) (hy:0<y):Calls Tryz.prog 151 #[.string s,.string t] w fun e w'=>e=.returned (.tuple #[.string ⟨(aP (x / y)).toArray⟩,.string ⟨(aP (x % y)).toArray⟩])∧Below w.heap.size w w':=by
 have HDA:Hid (s.data.toList.all isD=true):=hid (by rw[hs];exact bf x);have HV:Hid (dv s.data.toList=x):=hid (by rw[hs,bX]);have h0:0<s.size:=by rw[←size_data,hs];exact dn x
 have HLS:=hid (size_data s);have HT:=hid ht;have HTL:Hid ((aP y).length=t.size):=hid (by rw[←ht,size_data]);clear hs ht;have hmr:=rD s.size (by omega) (s.size:Int) rfl;have HST:=hid (BR.new w (List.replicate s.size 0));have HBE:Hid (Below w.heap.size w (w.alloc (.cells (bcs (List.replicate s.size 0)).toArray 5))):=hid ((ah _ _).alloc (ag _) _);have HS0:Hid (LdD s.data.toList y (List.replicate s.size 0) 0 0):=hid (LdD.start _ _ y (by rw[List.length_replicate,size_data]) hy)
 go_enter Tryz.func151,Tryz.ntmps151
 go_wp2
 go_loopw [7,8] (fun rv i wr=>∃(k R:Nat) (q:List UInt8) (rb:ByteArray),k≤s.size∧i=.int .i64 k∧rv=.string rb∧rb.data.toList=aP R∧LdD s.data.toList y q k R∧BR wr w.heap.size q∧Below w.heap.size w wr) (fun _ i _=>s.size-(intOf i).toNat)
 case atStart=>exact ⟨0,0,_,⟨#[48]⟩,aE _,rfl,rfl,dW.symm,HS0.out,HST.out,HBE.out⟩
 case round=>
  obtain ⟨k,R,q,rb,hk,rfl,rfl,hrb,hld,hbr,hbel⟩:=hrel;have HRB:=hid hrb;have HR:=hid hld;have HW:=hid hbr;have HBl:=hid hbel;have hql:q.length=s.size:=by rw[hld.len,HLS.out]
  have HRL:=hid hld.r1;have hrs:rb.size≤100000:=by rw[←size_data,hrb];exact pQ hld.r1 (by rw[HTL.out];exact h2)
  clear hrb hld hbr hbel HST HBE HS0
  by_cases hlt:k<s.size
  · have hda:=jx s HDA.out k hlt;have HDI:=hid (rE s k hlt);have HD1:Hid (isD s[k]=true):=hid (bW.2 hda);have hx1:(s.extract k (k+1)).size=1:=by rw[ByteArray.size_extract];omega
    have HAPP:=hid (vO rb s k hlt);have hsz:(rb++s.extract k (k+1)).size=rb.size+1:=by rw[ByteArray.size_append,hx1]
    have htr:=fj (rb++s.extract k (k+1)) wr (by omega);rw[HAPP.out,HRB.out,tN R _ HD1.out,←HDI.out] at htr;have hi1:(k:Int)+1≤(s.size:Int):=by omega
    clear hda
    go_wp2_with fail
    refine htr.mono ?_;rintro e w1 ⟨rfl,hb1⟩;have HW1:=hid (HW.out.far hb1);have HB1:=hid (HBl.out.trans (hb1.mono HBl.out.size));have HFD:Hid (fd s.data.toList k<10):=hid (vk _ HDA.out k);clear hb1 htr hsz hx1;obtain ⟨d,hd⟩:∃d,fd s.data.toList k=d:=⟨_,rfl⟩
    have HDE:=hid hd;rw[hd] at HFD ⊢;clear hd
    go_wp2_with fail
    go_loopw [7,9] (fun rv dv0 wr=>∃(R' j:Nat) (rb:ByteArray),rv=.string rb∧rb.data.toList=aP R'∧dv0=.int .u8 ((48+j:Nat):Int)∧R'+j*y=10*R+d∧j≤9∧BR wr w.heap.size q∧Below w.heap.size w wr) (fun rv _ _=>dv (yA rv))
    case atStart=>exact ⟨10*R+d,0,_,rfl,rfl,rfl,by omega,by omega,HW1.out,HB1.out⟩
    case round=>
     clear HW1 HB1;obtain ⟨R',j,rb',rfl,hrb',rfl,he,hj,hbr,hbel⟩:=hrel;have HRB':=hid hrb';have HE:=hid he;have HW1:=hid hbr;have HB1:=hid hbel;have hcm:=mM rb' t R' y wr hrb' HT.out;clear hrb' he hbr hbel
     by_cases hless:R'<y
     · rw[iq hless] at hcm;have hj9:j<10:=by omega
       have HSP:=hid (HR.out.step (by rw[HLS.out];exact hlt) hj9 hless (by rw[HE.out,HDE.out]))
       go_wp2_with fail
       refine hcm.mono ?_;rintro e w2 ⟨rfl,hb2⟩;have HW2:=hid (HW1.out.far hb2);have HB2:=hid (HB1.out.trans (hb2.mono HB1.out.size));have hcw:=HW2.out.cell k (by omega);have hfw:=HW2.out.fz k;have HDG:Hid (((48+j:Nat):Int)=((dg j).toNat:Int)):=hid (by rw[bT hj9]);clear hb2 hcm;generalize q.getD k 0=z at *
       go_wp2_with fail
       exact ⟨⟨k+1,R',q.set k (dg j),rb',by omega,by go_num,rfl,HRB'.out,HSP.out,HW2.out.set _ _ _ HDG.out,HB2.out.setCell (ag _) _⟩,by simp[intOf];omega⟩
     · have hge:¬iH R' y<0:=by
         rcases Nat.lt_or_ge y R' with h | h
         · rw[f7 h];omega
         · rw[ir (by omega)];omega
       have hj1:=vm HRL.out HFD.out HE.out (by omega);have HST:=hid (show R'-y+(j+1)*y=10*R+d by rw[←HE.out,Nat.add_mul];omega)
       have hrs':rb'.size≤1000000:=by
        rw[←size_data,HRB'.out]
        have h10:R'<10*y:=by
         have:=HE.out;have:=HRL.out;have:=HFD.out;have:0≤j*y:=aE _
         omega
        have:(aP R').length≤(aP y).length+1:=dD (by omega) (by
         have:=(jh y (by omega)).2
         rw[Nat.pow_succ];omega)
        rw[HTL.out] at this;omega
       have hsu:=fun W=>mN rb' t R' y W HRB'.out HT.out hrs' (by omega)
       have HDV:Hid (dv rb'.data.toList=R'):=hid (by rw[HRB'.out,bX]);generalize iH R' y=cv at *
       go_wp2_with fail
       refine hcm.mono ?_;rintro e w2 ⟨rfl,hb2⟩;have HW2:=hid (HW1.out.far hb2);have HB2:=hid (HB1.out.trans (hb2.mono HB1.out.size));clear hb2 hcm
       go_wp2_with fail
       refine (hsu _).mono ?_;rintro e w3 ⟨rfl,hb3⟩;have HW3:=hid (HW2.out.far hb3);have HB3:=hid (HB2.out.trans (hb3.mono HB2.out.size));clear hb3 hsu
       go_wp2_with fail
       go_roundw
       case rel=>exact ⟨R'-y,j+1,_,rfl,rfl,by go_num,HST.out,by omega,HW3.out,HB3.out⟩
       case measure=>
        show dv (aP (R'-y))<dv rb'.data.toList;rw[bX,HDV.out];omega
  · obtain rfl:k=s.size:=by omega
    have HDO:=hid ((show LdD s.data.toList y q s.data.toList.length R from by rw[HLS.out];exact HR.out).done (by intro e;have:=HLS.out;rw[e] at this;simp at this;omega));rw[HV.out] at HDO;have hcv:=mc HW.out s.size hql.symm;have htr:=fj ⟨q.toArray⟩ wr (by rw[sz_txt];omega);rw[xU,HDO.out.1] at htr;have HRE:Hid (rb=⟨(aP (x % y)).toArray⟩):=hid (dR _ _ (by rw[HRB.out,HDO.out.2]));obtain rfl:=HRE.out
    go_wp2_with fail
    refine htr.mono ?_;rintro e w1 ⟨rfl,hb1⟩;have HB1:=hid (HBl.out.trans (hb1.mono HBl.out.size));clear hb1 htr hcv
    go_wp2_with fail
    go_ret2
    exact ⟨rfl,HB1.out⟩
theorem mO (s t:ByteArray) (x y:Nat) (w:World) (hs:s.data.toList=aP x) (ht:t.data.toList=aP y) (h1:s.size≤100000) (h2:t.size≤100000):Calls Tryz.prog 150 #[.string s,.string t] w fun e w'=>e=.returned (.string ⟨(aP (x.gcd y)).toArray⟩)∧Below w.heap.size w w':=by
 have HS:=hid hs;have HT:=hid ht;clear hs ht
 go_enter Tryz.func150,Tryz.ntmps150
 go_wp2
 go_loopw [0,1] (fun a b wr=>∃(p q:Nat) (sa sb:ByteArray),a=.string sa∧b=.string sb∧sa.data.toList=aP p∧sb.data.toList=aP q∧sa.size≤100000∧sb.size≤100000∧p.gcd q=x.gcd y∧Below w.heap.size w wr) (fun _ b _=>dv (yA b))
 case atStart=>exact ⟨x,y,s,t,rfl,rfl,HS.out,HT.out,h1,h2,rfl,ah _ _⟩
 case round=>
  obtain ⟨p,q,sa,sb,rfl,rfl,ha,hb,hla,hlb,hg,hbel⟩:=hrel;have HA:=hid ha;have HB:=hid hb;have HG:=hid hg;have HBl:=hid hbel;have hsb:sb.toList=aP q:=by rw[ByteArray.toList_eq,hb]
  clear ha hb hg hbel
  by_cases hq:q=0
  · subst hq;have h48:(sb.toList==[48])=true:=by rw[hsb,dW];rfl
    have HE:Hid (sa=⟨(aP (x.gcd y)).toArray⟩):=hid (dR _ _ (by rw[←HG.out,Nat.gcd_zero_right,HA.out]));clear hsb
    go_wp2
    go_ret
    exact ⟨bY HE.out,HBl.out⟩
  · have h48:(sb.toList==[48])=false:=by
      rw[beq_eq_false_iff_ne,hsb,ne_eq,dN];exact hq
    have hdm:=fA sa sb p q wr HA.out HB.out hla hlb (by omega);have HR:Hid (q.gcd (p % q)=x.gcd y):=hid (by rw[←HG.out,Nat.gcd_comm p q,Nat.gcd_rec q p,Nat.gcd_comm]);have hlt:p % q<q:=Nat.mod_lt _ (by omega);have hl:(aP (p % q)).length≤100000:=pQ hlt (by rw[←HB.out,size_data];exact hlb);have HDV:Hid (dv sb.data.toList=q):=hid (by rw[HB.out,bX]);clear hsb
    go_wp2_with fail
    refine hdm.mono ?_;rintro e w1 ⟨rfl,hb1⟩;have HB1:=hid (HBl.out.trans (hb1.mono HBl.out.size));clear hb1 hdm
    go_wp2_with fail
    go_roundw
    case rel=>exact ⟨q,p % q,sb,_,rfl,rfl,HB.out,rfl,hlb,by rw[sz_txt];exact hl,HR.out,HB1.out⟩
    case measure=>
     show dv (aP (p % q))<dv sb.data.toList;rw[bX,HDV.out];exact hlt
end
end Go.Proofs.YtapdbeaoakcjeaaGreatDoor
namespace Go.Proofs.YtapdbeaoakcjeaaGreatDoor
open Go.RowKit Nmx
open Rf
def jy (q:Rat):Value:=.agg #[.bool (decide (q.num<0)),.string ⟨(aP q.num.natAbs).toArray⟩,.string ⟨(aP q.den).toArray⟩]
theorem yB {w:World} {R:Nat} {x y z a b c:Value} {t:TypeId} (h:w.heap[R]? =some (.cells #[a,b,c] t (0,0))):(((w.setCell ⟨R,0,none⟩ x).setCell ⟨R,1,none⟩ y).setCell ⟨R,2,none⟩ z).heap[R]? =some (.cells #[x,y,z] t (0,0)):=by
 have:=heap_set (heap_set (heap_set h 0 x) 1 y) 2 z
 simpa using this
theorem rF {fn:Func} {t:Tmp} {a:Act} {w w2:World} {R:Nat} {v0 v1 v2 x0 x1 x2:Value} {Q:Ending→World→Prop} (hres:fn.results=#[.cell t 149]) (hd:a.defers=[]) (ht:a.tmps.getD t undef=.pointer (some ⟨R,0,none⟩))
    (hR:w2.heap[R]? =some (.cells #[x0,x1,x2] 149 (0,0))) (hb:Below w.heap.size w w2) (hRB:w.heap.size≤R)
    (hQ:∀w3,Below w.heap.size w w3→Q (.returned (.agg #[v0,v1,v2])) w3):
    bodyPost Tryz.prog fn Q .ret a (((w2.setCell ⟨R,0,none⟩ v0).setCell ⟨R,1,none⟩ v1).setCell ⟨R,2,none⟩ v2):=by
 have h3:=yB (x:=v0) (y:=v1) (z:=v2) hR;have hbl:=((hb.setCell (show w.heap.size≤(⟨R,0,none⟩:Addr).block from hRB) v0).setCell (show w.heap.size≤(⟨R,1,none⟩:Addr).block from hRB) v1).setCell (show w.heap.size≤(⟨R,2,none⟩:Addr).block from hRB) v2;generalize ((w2.setCell ⟨R,0,none⟩ v0).setCell ⟨R,1,none⟩ v1).setCell ⟨R,2,none⟩ v2=w3 at *;have k0:=ac h3 0;have k1:=ac h3 1;have k2:=ac h3 2
 simp at k0 k1 k2
 refine bodyPost_ret (v:=.agg #[v0,v1,v2]) ?_ hd (hQ _ hbl);have h1:a.tmps[t]?.getD undef=.pointer (some ⟨R,0,none⟩):=by simpa using ht
 simp[results,hres,go_sem,h1,k0,k1,k2]
theorem dd {g d n:Nat} (h:(aP d).length≤n) (hg:g≤d):(aP g).length≤n:=by
 rcases Nat.lt_or_ge n (aP g).length with h1 | h1
 · have:=lM (m:=d) (n:=g) (by omega);omega
 · exact h1
section
theorem ee (neg:Bool) (s t:ByteArray) (n d:Nat) (w:World) (hs:s.data.toList=aP n) (ht:t.data.toList=aP d) (h1:s.size≤100000) (h2:t.size≤100000) (hd:0<d):Calls Tryz.prog 114 #[.bool neg,.string s,.string t] w fun e w'=>e=.returned (jy (eA neg n d))∧Below w.heap.size w w':=by
 obtain ⟨r1,r2⟩:=vp neg n d hd;have r3:=(iU neg n d hd).2;have HQ:Hid (jy (eA neg n d)=.agg #[.bool (neg && decide (n / n.gcd d≠0)),.string ⟨(aP (n / n.gcd d)).toArray⟩,.string ⟨(aP (d / n.gcd d)).toArray⟩]):=hid (by unfold jy;rw[r1,r2,r3]);clear r1 r2 r3;have hg:=fun W=>mO s t n d W hs ht h1 h2
 have hgp:0<n.gcd d:=Nat.gcd_pos_of_pos_right _ hd;have hgl:(aP (n.gcd d)).length≤100000:=dd (by rw[←ht,size_data];exact h2) (Nat.gcd_le_right _ hd);have hn:=fun W=>fA s ⟨(aP (n.gcd d)).toArray⟩ n (n.gcd d) W hs rfl h1 (by rw[sz_txt];exact hgl) hgp
 have hdd:=fun W=>fA t ⟨(aP (n.gcd d)).toArray⟩ d (n.gcd d) W ht rfl h2 (by rw[sz_txt];exact hgl) hgp
 generalize n.gcd d=g at *;obtain ⟨n',hn'⟩:∃n',n / g=n':=⟨_,rfl⟩
 obtain ⟨d',hd'⟩:∃d',d / g=d':=⟨_,rfl⟩
 rw[hn'] at hn HQ;rw[hd'] at hdd HQ;clear hn' hd' hs ht hgl;have HA0:Hid (Below w.heap.size w (w.alloc (.cells #[.bool false,.string ⟨#[]⟩,.string ⟨#[]⟩] 149))):=hid ((ah _ _).alloc (ag _) _);have HR0:Hid ((w.alloc (.cells #[.bool false,.string ⟨#[]⟩,.string ⟨#[]⟩] 149)).heap[w.heap.size]? =some (.cells #[.bool false,.string ⟨#[]⟩,.string ⟨#[]⟩] 149 (0,0))):=hid (heap_alloc_new w _)
 go_enter Tryz.func114,Tryz.ntmps114
 go_wp2_with fail
 refine (hg _).mono ?_;rintro e w1 ⟨rfl,hb1⟩;have HB1:=hid (HA0.out.trans (hb1.mono (by simp)));have HR1:=hid ((hb1.block _ (ay HR0.out)).trans HR0.out);clear hb1 hg
 go_wp2_with fail
 refine (hn _).mono ?_;rintro e w2 ⟨rfl,hb2⟩;have HB2:=hid (HB1.out.trans (hb2.mono HB1.out.size));have HR2:=hid ((hb2.block _ (ay HR1.out)).trans HR1.out);clear hb2 hn
 go_wp2_with fail
 refine (hdd _).mono ?_;rintro e w3 ⟨rfl,hb3⟩;have HB3:=hid (HB2.out.trans (hb3.mono HB2.out.size));have HR3:=hid ((hb3.block _ (ay HR2.out)).trans HR2.out);obtain ⟨c0,c1,c2⟩:w3.cell? ⟨w.heap.size,0,none⟩=some (.bool false)∧w3.cell? ⟨w.heap.size,1,none⟩=some (.string ⟨#[]⟩)∧w3.cell? ⟨w.heap.size,2,none⟩=some (.string ⟨#[]⟩):=⟨ac HR3.out 0,ac HR3.out 1,ac HR3.out 2⟩
 have f0:=aM HR3.out 0;have f1:=aM HR3.out 1;have f2:=aM HR3.out 2;clear hb3 hdd;cases neg
 · go_wp2_with fail
   exact rF Tryz.results114 rfl rfl HR3.out HB3.out (ag _) (fun w3 h=>⟨by rw[HQ.out,Bool.false_and],h⟩)
 · by_cases h0:n'=0
   · subst h0;have h48:(aP 0==[48])=true:=by rw[dW];rfl
     go_wp2_with fail
     exact rF Tryz.results114 rfl rfl HR3.out HB3.out (ag _) (fun w3 h=>⟨by rw[HQ.out,Bool.true_and];rfl,h⟩)
   · have h48:(aP n'==[48])=false:=by rw[beq_eq_false_iff_ne,ne_eq,dN];exact h0
     go_wp2_with fail
     exact rF Tryz.results114 rfl rfl HR3.out HB3.out (ag _) (fun w3 h=>⟨by rw[HQ.out,Bool.true_and,decide_eq_true h0],h⟩)
theorem fN (a b:ByteArray):(a++b).data.toList=a.data.toList++b.data.toList:=by rw[ByteArray.data_append,Array.toList_append]
theorem fs (q:Rat) (w:World) (h1:(aP q.num.natAbs).length≤1000000) (h2:(aP q.den).length≤1000000):Calls Tryz.prog 116 #[jy q] w fun e w'=>e=.returned (.string ⟨(bE q).toArray⟩)∧Below w.heap.size w w':=by
 have HT:Hid (bE q=_):=hid (rg q);obtain ⟨a,ha⟩:∃a:ByteArray,(⟨(aP q.num.natAbs).toArray⟩:ByteArray)=a:=⟨_,rfl⟩
 obtain ⟨b,hb⟩:∃b:ByteArray,(⟨(aP q.den).toArray⟩:ByteArray)=b:=⟨_,rfl⟩
 have hal:a.size≤1000000:=by rw[←ha,sz_txt];exact h1
 have hbl:b.size≤1000000:=by rw[←hb,sz_txt];exact h2
 have HA:Hid (a.data.toList=aP q.num.natAbs):=hid (by rw[←ha]);have HB:Hid (b.data.toList=aP q.den):=hid (by rw[←hb]);have hbt:b.toList=aP q.den:=by rw[ByteArray.toList_eq,HB.out]
 unfold jy;rw[ha,hb];have HBE:Hid (Below w.heap.size w (w.alloc (.cells #[.bool (decide (q.num<0)),.string a,.string b] 149))):=hid ((ah _ _).alloc (ag _) _);clear ha hb
 by_cases hn:q.num<0
 · rw[decide_eq_true hn] at HBE ⊢;have hs1:((⟨#[45]⟩:ByteArray)++a).size≤1000001:=by rw[ByteArray.size_append];show 1+a.size≤_;omega
   by_cases hd:q.den=1
   · have h49:(b.toList==[49])=true:=by rw[hbt,hd,eQ];rfl
     have HE:Hid ((⟨#[45]⟩:ByteArray)++a=⟨(bE q).toArray⟩):=hid (dR _ _ (by rw[fN,HA.out,HT.out,if_pos hn,if_pos hd,List.append_nil]));clear hbt hd hn
     go_enter Tryz.func116,Tryz.ntmps116
     go_wp2
     go_ret
     exact ⟨bY HE.out,HBE.out⟩
   · have h49:(b.toList==[49])=false:=by rw[beq_eq_false_iff_ne,hbt,ne_eq,gS];exact hd
     have HE:Hid ((⟨#[45]⟩:ByteArray)++a++((⟨#[47]⟩:ByteArray)++b)=⟨(bE q).toArray⟩):=hid (dR _ _ (by rw[fN,fN,fN,HA.out,HB.out,HT.out,if_pos hn,if_neg hd];simp));clear hbt hd hn
     go_enter Tryz.func116,Tryz.ntmps116
     go_wp2
     go_ret
     exact ⟨bY HE.out,HBE.out⟩
 · rw[decide_eq_false hn] at HBE ⊢
   by_cases hd:q.den=1
   · have h49:(b.toList==[49])=true:=by rw[hbt,hd,eQ];rfl
     have HE:Hid (a=⟨(bE q).toArray⟩):=hid (dR _ _ (by rw[HA.out,HT.out,if_neg hn,if_pos hd,List.append_nil,List.nil_append]));clear hbt hd hn
     go_enter Tryz.func116,Tryz.ntmps116
     go_wp2
     go_ret
     exact ⟨bY HE.out,HBE.out⟩
   · have h49:(b.toList==[49])=false:=by rw[beq_eq_false_iff_ne,hbt,ne_eq,gS];exact hd
     have HE:Hid (a++((⟨#[47]⟩:ByteArray)++b)=⟨(bE q).toArray⟩):=hid (dR _ _ (by rw[fN,fN,HA.out,HB.out,HT.out,if_neg hn,if_neg hd];simp));clear hbt hd hn
     go_enter Tryz.func116,Tryz.ntmps116
     go_wp2
     go_ret
     exact ⟨bY HE.out,HBE.out⟩
end
end Go.Proofs.YtapdbeaoakcjeaaGreatDoor

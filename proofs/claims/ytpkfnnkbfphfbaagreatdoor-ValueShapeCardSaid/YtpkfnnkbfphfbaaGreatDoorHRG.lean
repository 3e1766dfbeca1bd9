import Derived.Test.YtpkfnnkbfphfbaaGreatDoorHNC
import Derived.Deep.DeepCutAuto
import Derived.Deep.RegionHeld3
import Derived.StillTailTactics
import Derived.Deep.CutBlock
set_option maxRecDepth 100000
set_option maxHeartbeats 40000000
open Go.Lib (hid)
namespace Go.Proofs.YtpkfnnkbfphfbaaGreatDoor.Rf
open Go.RowKit Nmx Go.Proofs.Tryz
theorem size_data (s:ByteArray):s.data.toList.length=s.size:=by rw[Array.length_toList];rfl
theorem ex_data (s:ByteArray) (a b:Nat):(s.extract a b).data.toList=(s.data.toList.drop a).take (b-a):=by
 rw[ByteArray.data_extract,Array.toList_extract]
theorem isE (s:ByteArray):s.toList.isEmpty=decide (s.size=0):=by
 rw[ByteArray.toList_eq,←size_data];cases s.data.toList <;> simp
theorem byte_at (s:ByteArray) (k:Nat) (h:k<s.size):s.data.toList[k]? =some s[k]:=by
 rw[ay (by rw[size_data];exact h)];rfl
theorem take_all (s:ByteArray) (k:Nat) (h:k<s.size) (ha:(s.data.toList.take k).all isD=true) (hc:isD s[k]=true):(s.data.toList.take (k+1)).all isD=true:=by
 rw[List.take_add_one,byte_at s k h,List.all_append,ha];simpa using hc
theorem not_all (s:ByteArray) (k:Nat) (h:k<s.size) (hc:isD s[k]=false):s.data.toList.all isD=false:=by
 rw[List.all_eq_false];exact ⟨s[k],List.mem_of_getElem? (byte_at s k h),by rw[hc];simp⟩
def bcs (l:List UInt8):List Value:=l.map fun b=>Value.int .u8 (b.toNat:Int)
theorem bcs_append (a b:List UInt8):bcs (a++b)=bcs a++bcs b:=by simp[bcs]
theorem infoU8:(prog.info? 5).map (fun i=>(i.zero,i.size,i.bytes))=some (some (.int .u8 0),1,1):=by kernel_rfl
theorem sz_txt (l:List UInt8):(⟨l.toArray⟩:ByteArray).size=l.length:=by simp[ByteArray.size]
end Go.Proofs.YtpkfnnkbfphfbaaGreatDoor.Rf
namespace Go.Proofs.YtpkfnnkbfphfbaaGreatDoor
open Go.RowKit Nmx Go.Proofs.Tryz
open Rf
theorem zE (l:List UInt8) (i:Nat) (c:UInt8):(bcs l).toArray.setIfInBounds i (.int .u8 (c.toNat:Int))=(bcs (l.set i c)).toArray:=by
 simp[bcs,List.map_set]
theorem AX (l:List UInt8) (i:Nat) (hi:i<l.length):(bcs l)[i]? =some (.int .u8 ((l.getD i 0).toNat:Int)):=by
 simp[bcs,List.getD_eq_getElem?_getD,hi]
def BR (w:World) (g:Nat) (l:List UInt8):Prop:=w.heap[g]? =some (.cells (bcs l).toArray 5 (0,0))
theorem BR.set {w:World} {g:Nat} {l:List UInt8} (h:BR w g l) (i:Nat) (c:UInt8) (z:Int) (hz:z=c.toNat):BR (w.setCell ⟨g,i,none⟩ (.int .u8 z)) g (l.set i c):=by
 subst hz;unfold BR;rw[←zE];exact heap_set h i _
theorem BR.cell {w:World} {g:Nat} {l:List UInt8} (h:BR w g l) (i:Nat) (hi:i<l.length):w.cell? ⟨g,i,none⟩=some (.int .u8 ((l.getD i 0).toNat:Int)):=by
 rw[aa h i];simpa using AX l i hi
theorem BR.fz {w:World} {g:Nat} {l:List UInt8} (h:BR w g l) (i:Nat):w.frozen? ⟨g,i,none⟩=false:=aK h i
theorem BR.new (w:World) (l:List UInt8):BR (w.alloc (.cells (bcs l).toArray 5)) w.heap.size l:=aq w _
theorem BR.far {w w':World} {g:Nat} {l:List UInt8} (h:BR w g l) (hb:Below w.heap.size w w'):BR w' g l:=(hb.block g (ar h)).trans h
theorem zF (n:Nat):madeCells (Value.cells (.int .u8 0)) (n*1)=(bcs (List.replicate n 0)).toArray:=by
 apply Array.ext
 · simp[madeCells,bcs]
 · intro i h1 h2
   simp[madeCells,bcs,Value.cells,Nat.mod_one]
theorem mN (n:Nat) (hn:n≤1000000000) (z:Int) (hz:z=n) (W:World):
    (Instr.makeSlice 99 (.int .i64 z) (.int .i64 z)).run prog W=.ok (.slice (some ⟨W.heap.size,0,none⟩) n n) (W.alloc (.cells (bcs (List.replicate n 0)).toArray 5)):=by
 subst hz;obtain ⟨i0,hi,hz0,hz1,hz2⟩:=info_parts infoU8;have hr:=run_make (P:=prog) W 99 5 i0 _ underlying99 hi hz0 .i64 .i64 n n (by omega) (by omega) (by rw[hz2];omega) (by omega);rw[hz1,Int.toNat_natCast,zF] at hr;exact hr
theorem iG {w:World} {g:Nat} {l:List UInt8} (h:BR w g l) (n:Nat) (hn:n=l.length):Sem.run prog (convert 99 9 (.slice (some ⟨g,0,none⟩) n n)) w=.ok (.string ⟨l.toArray⟩) w:=by
 subst hn
 exact run_convert_bytes_back (P:=prog) w 99 9 5 ⟨g,0,none⟩ l.length l underlying99 underlying5 underlying9 (fun j hj=>by
  rw[Addr.add_lit];show w.cell? ⟨g,0+j,none⟩=_
  rw[Nat.zero_add,h.cell j hj,aA,ay hj,Option.getD_some])
theorem uU:∀(x y:List UInt8),Op.bytesLess x y=decide (x<y)
 | [],[]=>by simp[Op.bytesLess]
 | _::_,[]=>by simp[Op.bytesLess]
 | [],_::_=>by simp[Op.bytesLess]
 | a::x,b::y=>by
   rw[Op.bytesLess,uU x y,Bool.eq_iff_iff]
   simp[List.cons_lt_cons_iff]
def ke (l:List UInt8):Bool:=l.all isD && decide (l≠[])
theorem d6 (s:ByteArray) (l:List UInt8) (h:s.data.toList=l):s=⟨l.toArray⟩:=by
 apply ByteArray.ext;apply Array.toList_inj.1;rw[h]
theorem bA (s:ByteArray) (w:World) (hs:s.size≤1000000000):Calls prog 99 #[.string s] w fun e w'=>e=.returned (.bool (ke s.data.toList))∧w'=w:=by
 have HN:Hid (s.data.toList=[] ↔ s.size=0):=hid (by rw[←List.length_eq_zero_iff,size_data])
 go_enter func99,ntmps99
 go_wp2
 go_loop [3] (fun iv=>∃k:Nat,k≤s.size∧iv=.int .i64 k∧(s.data.toList.take k).all isD=true) (fun iv=>s.size-(intOf iv).toNat)
 case atStart=>exact ⟨0,aM _,rfl,rfl⟩
 case round=>
  obtain ⟨k,hk,rfl,ha⟩:=hrel;have HA:=hid ha;clear ha
  by_cases hlt:k<s.size
  · by_cases hd:isD s[k]=true
    · have h1:¬(s[k].toNat:Int)<48:=by have:=cA.1 hd;omega
      have h2:¬(57:Int)<(s[k].toNat:Int):=by have:=cA.1 hd;omega
      have HD:=hid (take_all s k hlt HA.out hd);clear hd
      go_wp2
      go_round
      case rel=>exact ⟨k+1,by omega,by go_num,HD.out⟩
      case measure=>simp[intOf];omega
    · have hd':isD s[k]=false:=by simpa using hd
      have HR:Hid (ke s.data.toList=false):=hid (by unfold ke;rw[not_all s k hlt hd'];rfl)
      by_cases h1:(s[k].toNat:Int)<48
      · clear hd hd'
        go_wp2
        go_ret
        exact ⟨ret_bool HR.out.symm,rfl⟩
      · have h2:(57:Int)<(s[k].toNat:Int):=by simp[isD] at hd';omega
        clear hd hd'
        go_wp2
        go_ret
        exact ⟨ret_bool HR.out.symm,rfl⟩
  · have hall:s.data.toList.all isD=true:=by
      have:=HA.out;rwa [aT (by rw[size_data];omega)] at this
    have HR:Hid (ke s.data.toList= !(decide (s.size=0))):=hid (by
     unfold ke;rw[hall,Bool.true_and]
     by_cases h0:s.size=0
     · rw[aH h0,aD (by rw[ne_eq,HN.out];exact fun h=>h h0)];rfl
     · rw[aD h0,aH (by rw[ne_eq,HN.out];exact h0)];rfl)
    clear hall
    go_wp2
    go_ret
    exact ⟨ret_bool (by rw[HR.out,isE]),rfl⟩
theorem mO (l:List UInt8) (h:¬(1<l.length∧l.headD 0=48)):cn l=l:=by
 match l,h with
 | [],_=>rfl
 | [c],_=>rfl
 | c::d::r,h=>
   unfold cn;exact aB (fun e=>h ⟨by simp,e⟩)
theorem yf (l:List UInt8) (h1:1<l.length) (h:l.headD 0=48):cn l=cn l.tail:=by
 match l,h1,h with
 | c::d::r,_,h=>
   conv=>lhs;unfold cn
   exact aF h
theorem rk (t:ByteArray) (h:0<t.size):t.data.toList.headD 0=t[0]:=by
 rw[List.headD_eq_head?_getD,List.head?_eq_getElem?,byte_at t 0 h];rfl
theorem bH (s:ByteArray) (w:World) (hs:s.size≤1000000000):Calls prog 100 #[.string s] w fun e w'=>e=.returned (.string ⟨(cn s.data.toList).toArray⟩)∧w'=w:=by
 go_enter func100,ntmps100
 go_wp2
 go_loop [0] (fun v=>∃t:ByteArray,v=.string t∧t.size≤1000000000∧cn t.data.toList=cn s.data.toList) (fun v=>match v with | .string t=>t.size | _=>0)
 case atStart=>exact ⟨s,rfl,hs,rfl⟩
 case round=>
  obtain ⟨t,rfl,ht,hr⟩:=hrel;have HR:=hid hr;clear hr
  by_cases h1:1<t.size
  · have h1i:(1:Int)<(t.size:Int):=by omega
    have hh:=rk t (by omega)
    by_cases h48:t[0]=48
    · have h48i:((t[0].toNat:Int)==48)=true:=by rw[h48];rfl
      have HS:Hid (cn (t.extract 1 t.size).data.toList=cn s.data.toList):=hid (by
       rw[←HR.out,yf t.data.toList (by rw[size_data];exact h1) (by rw[hh,h48]),ex_data,aT (by rw[List.length_drop,size_data];exact aj _),List.drop_one])
      have hsz:(t.extract 1 t.size).size=t.size-1:=by rw[ByteArray.size_extract];omega
      clear hh h48
      go_wp2
      go_round
      case rel=>exact ⟨_,rfl,by rw[hsz];omega,HS.out⟩
      case measure=>simp only[hsz];omega
    · have h48i:((t[0].toNat:Int)==48)=false:=by
        simp only[beq_eq_false_iff_ne,ne_eq];intro e;exact h48 (UInt8.toNat_inj.1 (by have:(48:UInt8).toNat=48:=rfl;omega))
      have HS:Hid (t=⟨(cn s.data.toList).toArray⟩):=hid (d6 _ _ (by rw[←HR.out,mO _ (by rw[hh];exact fun h=>h48 h.2)]));clear hh h48
      go_wp2
      go_ret
      exact ⟨bK HS.out,rfl⟩
  · have h1i:¬(1:Int)<(t.size:Int):=by omega
    have HS:Hid (t=⟨(cn s.data.toList).toArray⟩):=hid (d6 _ _ (by rw[←HR.out,mO _ (by rw[size_data];exact fun h=>h1 h.1)]))
    go_wp2
    go_ret
    exact ⟨bK HS.out,rfl⟩
theorem d7 (s:ByteArray) (w:World) (hs:s.size≤1000000000):Calls prog 100 #[.string s] w fun e w'=>e=.returned (.string ⟨(cn s.data.toList).toArray⟩)∧Below w.heap.size w w':=
 (bH s w hs).mono fun _ _ h=>⟨h.1,by rw[h.2];exact am _ _⟩
theorem fV (s t:ByteArray) (x y:Nat) (w:World) (hs:s.data.toList=aU x) (ht:t.data.toList=aU y):Calls prog 146 #[.string s,.string t] w fun e w'=>e=.returned (.int .i64 (eS x y))∧Below w.heap.size w w':=by
 have hm:=AM x y;have hls:s.size=(aU x).length:=by rw[←hs,size_data]
 have hlt:t.size=(aU y).length:=by rw[←ht,size_data]
 have hbl:Op.bytesLess s.toList t.toList=decide (aU x<aU y):=by rw[ByteArray.toList_eq,ByteArray.toList_eq,uU,hs,ht]
 have heq:x≠y→¬s.toList=t.toList:=fun hne e=>hne (jT (by rw[←hs,←ht,←ByteArray.toList_eq,e,ByteArray.toList_eq]))
 rcases Nat.lt_trichotomy x y with h | h | h
 · rw[aH h] at hm;have HC:=hid (i8 h);clear h
   by_cases h1:s.size<t.size
   · have h1i:(s.size:Int)<(t.size:Int):=by omega
     clear hm hls hlt
     go_enter func146,ntmps146
     go_wp2
     go_ret
     exact ⟨ret_int HC.out.symm,am _ _⟩
   · have h1i:¬(s.size:Int)<(t.size:Int):=by omega
     rw[←hls,←hlt,aD h1,Bool.false_or,Bool.and_eq_true,decide_eq_true_eq] at hm;have h2:((s.size:Int)==(t.size:Int))=true:=by simp;omega
     rw[hm.2] at hbl;clear hm hls hlt
     go_enter func146,ntmps146
     go_wp2
     go_ret
     exact ⟨ret_int HC.out.symm,am _ _⟩
 · have HC:=hid (ja h);subst h;have hst:s=t:=(d6 _ _ hs).trans (d6 _ _ ht).symm;subst hst;clear heq;have h1i:¬(s.size:Int)<(s.size:Int):=by omega
   have h2:((s.size:Int)==(s.size:Int))=true:=by simp
   have hll:decide (aU x<aU x)=false:=aD (by rw[xk _ _ rfl (bg x) (bg x)];omega);rw[hll] at hbl;clear hm hls hlt
   go_enter func146,ntmps146
   go_wp2
   go_ret
   exact ⟨ret_int HC.out.symm,am _ _⟩
 · rw[aD (show ¬x<y by omega)] at hm;have hne:(s.toList==t.toList)=false:=by simpa using heq (by omega)
   clear heq;have HC:=hid (gQ h);rw[←hls,←hlt,Bool.or_eq_false_iff,decide_eq_false_iff_not] at hm;obtain ⟨h1,h2⟩:=hm;have h1i:¬(s.size:Int)<(t.size:Int):=by omega
   by_cases h3:s.size=t.size
   · have h3i:((s.size:Int)==(t.size:Int))=true:=by simp;omega
     rw[aH h3,Bool.true_and] at h2;rw[h2] at hbl;clear hls hlt h1 h2 h3 h
     go_enter func146,ntmps146
     go_wp2
     go_ret
     exact ⟨ret_int HC.out.symm,am _ _⟩
   · have h3i:((s.size:Int)==(t.size:Int))=false:=by simp;omega
     clear hls hlt h1 h2 h3 h
     go_enter func146,ntmps146
     go_wp2
     go_ret
     exact ⟨ret_int HC.out.symm,am _ _⟩
theorem iH (s:ByteArray) (k:Nat) (hk:k<s.size):di s.data.toList k=(s[s.size-1-k]'(by omega)).toNat-48:=by
 have hl:=size_data s;rw[Ag _ _ (by omega)];have:=byte_at s (s.size-1-k) (by omega);rw[List.getElem?_eq_some_iff] at this;obtain ⟨_,h⟩:=this;rw[←h];simp only[hl]
theorem el (s:ByteArray) (h:s.data.toList.all isD=true) (k:Nat) (hk:k<s.size):48≤(s[k]).toNat∧(s[k]).toNat≤57:=by
 have:=byte_at s k hk;exact cA.1 (List.all_eq_true.1 h _ (List.mem_of_getElem? this))
theorem pE (s t:ByteArray) (x y:Nat) (w:World) (hs:s.data.toList=aU x) (ht:t.data.toList=aU y) (h1:s.size≤1000000) (h2:t.size≤1000000) (hle:s.size<t.size):Calls prog 149 #[.string s,.string t] w fun e w'=>e=.returned (.string ⟨(aU (x+y)).toArray⟩)∧Below w.heap.size w w':=by
 have HDA:Hid (s.data.toList.all isD=true):=hid (by rw[hs];exact bg x);have HDB:Hid (t.data.toList.all isD=true):=hid (by rw[ht];exact bg y);have HV:Hid (dv s.data.toList=x∧dv t.data.toList=y):=hid (by rw[hs,ht,cg,cg];exact ⟨rfl,rfl⟩);clear hs ht;obtain ⟨n,hn⟩:∃n,t.size+1=n:=⟨_,rfl⟩
 have hn1:s.size<n:=by omega
 have hn2:t.size<n:=by omega
 have hn3:n≤1000001:=by omega
 have hmi:(t.size:Int)+1=(n:Int):=by omega
 have hmk:=mN n (by omega) (n:Int) rfl;have HST:=hid (BR.new w (List.replicate n 0));have HBE:Hid (Below w.heap.size w (w.alloc (.cells (bcs (List.replicate n 0)).toArray 5))):=hid ((am _ _).alloc (aj _) _);have HS0:Hid (AddD s.data.toList t.data.toList (List.replicate n 0) n 0 0):=hid (AddD.start _ _ _ n List.length_replicate);clear hn
 go_enter func149,ntmps149
 go_wp2
 go_loopw [7,8] (fun c i wr=>∃(k cc:Nat) (q:List UInt8),k≤n∧i=.int .i64 k∧c=.int .i64 cc∧AddD s.data.toList t.data.toList q n k cc∧BR wr w.heap.size q∧Below w.heap.size w wr) (fun _ i _=>n-(intOf i).toNat)
 case atStart=>exact ⟨0,0,_,aM _,rfl,rfl,HS0.out,HST.out,HBE.out⟩
 case round=>
  obtain ⟨k,cc,q,hk,rfl,rfl,hadd,hbr,hbel⟩:=hrel;have HR:=hid hadd;have HW:=hid hbr;have HBl:=hid hbel;have hql:=hadd.len;have hc1:(cc:Int)≤1:=by have:=hadd.c1;omega
  have hc0:(0:Int)≤cc:=by omega
  clear hadd hbr hbel HST HBE HS0
  by_cases hlt:k<n
  · have hcw:=HW.out.cell (n-1-k) (by omega);have hfw:=HW.out.fz (n-1-k);have p0:(0:Int)≤(n:Int)-1-(k:Int):=by omega
    have p1:((n:Int)-1-(k:Int)).toNat=n-1-k:=by omega
    have p2:(n:Int)-1-(k:Int)<(n:Int):=by omega
    generalize q.getD (n-1-k) 0=z at *;have HSP:Hid (∀u,u=cc+di s.data.toList k+di t.data.toList k→AddD s.data.toList t.data.toList (q.set (n-1-k) (dg (u % 10))) n (k+1) (u / 10)):=hid (fun u hu=>HR.out.step HDA.out HDB.out hlt u hu);have hdgt:∀u:Nat,((48+u % 10:Nat):Int)=((dg (u % 10)).toNat:Int):=fun u=>by rw[cj (Nat.mod_lt _ (by omega))]
    have HDG:=hid hdgt;clear hdgt
    by_cases ha':k<s.size
    · skip
      by_cases hb':k<t.size
      · skip
        have ai:(k:Int)<(s.size:Int):=by omega
        have a0:(0:Int)≤(s.size:Int)-1-(k:Int):=by omega
        have a1:((s.size:Int)-1-(k:Int)).toNat=s.size-1-k:=by omega
        have a2:(s.size:Int)-1-(k:Int)<(s.size:Int):=by omega
        have hda:=el s HDA.out (s.size-1-k) (by omega);have HDI:=hid (iH s k ha');have bi:(k:Int)<(t.size:Int):=by omega
        have b0:(0:Int)≤(t.size:Int)-1-(k:Int):=by omega
        have b1:((t.size:Int)-1-(k:Int)).toNat=t.size-1-k:=by omega
        have b2:(t.size:Int)-1-(k:Int)<(t.size:Int):=by omega
        have hdb:=el t HDB.out (t.size-1-k) (by omega);have HDJ:=hid (iH t k hb')
        go_wp2
        obtain ⟨u,hu⟩:∃u,cc+di s.data.toList k+di t.data.toList k=u:=⟨_,rfl⟩
        have hE:(cc:Int)+((s[s.size-1-k].toNat:Int)-48)+((t[t.size-1-k].toNat:Int)-48)=(u:Int):=by rw[←hu,HDI.out,HDJ.out];omega
        rw[hE];exact ⟨⟨k+1,u / 10,q.set (n-1-k) (dg (u % 10)),by omega,by go_num,rfl,HSP.out u hu.symm,HW.out.set _ _ _ (by rw[←HDG.out u];omega),HBl.out.setCell (aj _) _⟩,by simp[intOf];omega⟩
      · exfalso;omega
    · skip
      by_cases hb':k<t.size
      · skip
        have ai:¬(k:Int)<(s.size:Int):=by omega
        have HDI:=hid (jz s.data.toList k (by rw[size_data];exact ha'));have bi:(k:Int)<(t.size:Int):=by omega
        have b0:(0:Int)≤(t.size:Int)-1-(k:Int):=by omega
        have b1:((t.size:Int)-1-(k:Int)).toNat=t.size-1-k:=by omega
        have b2:(t.size:Int)-1-(k:Int)<(t.size:Int):=by omega
        have hdb:=el t HDB.out (t.size-1-k) (by omega);have HDJ:=hid (iH t k hb')
        go_wp2
        obtain ⟨u,hu⟩:∃u,cc+di s.data.toList k+di t.data.toList k=u:=⟨_,rfl⟩
        have hE:(cc:Int)+((t[t.size-1-k].toNat:Int)-48)=(u:Int):=by rw[←hu,HDI.out,HDJ.out];omega
        rw[hE];exact ⟨⟨k+1,u / 10,q.set (n-1-k) (dg (u % 10)),by omega,by go_num,rfl,HSP.out u hu.symm,HW.out.set _ _ _ (by rw[←HDG.out u];omega),HBl.out.setCell (aj _) _⟩,by simp[intOf];omega⟩
      · skip
        have ai:¬(k:Int)<(s.size:Int):=by omega
        have HDI:=hid (jz s.data.toList k (by rw[size_data];exact ha'));have bi:¬(k:Int)<(t.size:Int):=by omega
        have HDJ:=hid (jz t.data.toList k (by rw[size_data];exact hb'))
        go_wp2
        obtain ⟨u,hu⟩:∃u,cc+di s.data.toList k+di t.data.toList k=u:=⟨_,rfl⟩
        have hE:(cc:Int)=(u:Int):=by rw[←hu,HDI.out,HDJ.out];omega
        rw[hE];exact ⟨⟨k+1,u / 10,q.set (n-1-k) (dg (u % 10)),by omega,by go_num,rfl,HSP.out u hu.symm,HW.out.set _ _ _ (by rw[←HDG.out u];omega),HBl.out.setCell (aj _) _⟩,by simp[intOf];omega⟩
  · obtain rfl:k=n:=by omega
    have HD:Hid (cn q=aU (x+y)):=hid (by rw[HR.out.done HDA.out HDB.out (by rw[size_data];omega) (by rw[size_data];omega),HV.out.1,HV.out.2]);have hcv:=iG HW.out k hql.symm;have htr:=d7 ⟨q.toArray⟩ wr (by rw[sz_txt];omega);rw[show (⟨q.toArray⟩:ByteArray).data.toList=q from rfl,HD.out] at htr
    go_wp2_with fail
    refine htr.mono ?_;rintro e w1 ⟨rfl,hb1⟩;have HB1:=hid (HBl.out.trans (hb1.mono HBl.out.size));clear hb1 htr hcv
    go_wp2
    go_ret
    exact ⟨rfl,HB1.out⟩
theorem pF (s t:ByteArray) (x y:Nat) (w:World) (hs:s.data.toList=aU x) (ht:t.data.toList=aU y) (h1:s.size≤1000000) (h2:t.size≤1000000) (hle:t.size≤s.size):Calls prog 149 #[.string s,.string t] w fun e w'=>e=.returned (.string ⟨(aU (x+y)).toArray⟩)∧Below w.heap.size w w':=by
 have HDA:Hid (s.data.toList.all isD=true):=hid (by rw[hs];exact bg x);have HDB:Hid (t.data.toList.all isD=true):=hid (by rw[ht];exact bg y);have HV:Hid (dv s.data.toList=x∧dv t.data.toList=y):=hid (by rw[hs,ht,cg,cg];exact ⟨rfl,rfl⟩);clear hs ht;obtain ⟨n,hn⟩:∃n,s.size+1=n:=⟨_,rfl⟩
 have hn1:s.size<n:=by omega
 have hn2:t.size<n:=by omega
 have hn3:n≤1000001:=by omega
 have hmi:(s.size:Int)+1=(n:Int):=by omega
 have hmk:=mN n (by omega) (n:Int) rfl;have HST:=hid (BR.new w (List.replicate n 0));have HBE:Hid (Below w.heap.size w (w.alloc (.cells (bcs (List.replicate n 0)).toArray 5))):=hid ((am _ _).alloc (aj _) _);have HS0:Hid (AddD s.data.toList t.data.toList (List.replicate n 0) n 0 0):=hid (AddD.start _ _ _ n List.length_replicate);clear hn
 go_enter func149,ntmps149
 go_wp2
 go_loopw [7,8] (fun c i wr=>∃(k cc:Nat) (q:List UInt8),k≤n∧i=.int .i64 k∧c=.int .i64 cc∧AddD s.data.toList t.data.toList q n k cc∧BR wr w.heap.size q∧Below w.heap.size w wr) (fun _ i _=>n-(intOf i).toNat)
 case atStart=>exact ⟨0,0,_,aM _,rfl,rfl,HS0.out,HST.out,HBE.out⟩
 case round=>
  obtain ⟨k,cc,q,hk,rfl,rfl,hadd,hbr,hbel⟩:=hrel;have HR:=hid hadd;have HW:=hid hbr;have HBl:=hid hbel;have hql:=hadd.len;have hc1:(cc:Int)≤1:=by have:=hadd.c1;omega
  have hc0:(0:Int)≤cc:=by omega
  clear hadd hbr hbel HST HBE HS0
  by_cases hlt:k<n
  · have hcw:=HW.out.cell (n-1-k) (by omega);have hfw:=HW.out.fz (n-1-k);have p0:(0:Int)≤(n:Int)-1-(k:Int):=by omega
    have p1:((n:Int)-1-(k:Int)).toNat=n-1-k:=by omega
    have p2:(n:Int)-1-(k:Int)<(n:Int):=by omega
    generalize q.getD (n-1-k) 0=z at *;have HSP:Hid (∀u,u=cc+di s.data.toList k+di t.data.toList k→AddD s.data.toList t.data.toList (q.set (n-1-k) (dg (u % 10))) n (k+1) (u / 10)):=hid (fun u hu=>HR.out.step HDA.out HDB.out hlt u hu);have hdgt:∀u:Nat,((48+u % 10:Nat):Int)=((dg (u % 10)).toNat:Int):=fun u=>by rw[cj (Nat.mod_lt _ (by omega))]
    have HDG:=hid hdgt;clear hdgt
    by_cases ha':k<s.size
    · skip
      by_cases hb':k<t.size
      · skip
        have ai:(k:Int)<(s.size:Int):=by omega
        have a0:(0:Int)≤(s.size:Int)-1-(k:Int):=by omega
        have a1:((s.size:Int)-1-(k:Int)).toNat=s.size-1-k:=by omega
        have a2:(s.size:Int)-1-(k:Int)<(s.size:Int):=by omega
        have hda:=el s HDA.out (s.size-1-k) (by omega);have HDI:=hid (iH s k ha');have bi:(k:Int)<(t.size:Int):=by omega
        have b0:(0:Int)≤(t.size:Int)-1-(k:Int):=by omega
        have b1:((t.size:Int)-1-(k:Int)).toNat=t.size-1-k:=by omega
        have b2:(t.size:Int)-1-(k:Int)<(t.size:Int):=by omega
        have hdb:=el t HDB.out (t.size-1-k) (by omega);have HDJ:=hid (iH t k hb')
        go_wp2
        obtain ⟨u,hu⟩:∃u,cc+di s.data.toList k+di t.data.toList k=u:=⟨_,rfl⟩
        have hE:(cc:Int)+((s[s.size-1-k].toNat:Int)-48)+((t[t.size-1-k].toNat:Int)-48)=(u:Int):=by rw[←hu,HDI.out,HDJ.out];omega
        rw[hE];exact ⟨⟨k+1,u / 10,q.set (n-1-k) (dg (u % 10)),by omega,by go_num,rfl,HSP.out u hu.symm,HW.out.set _ _ _ (by rw[←HDG.out u];omega),HBl.out.setCell (aj _) _⟩,by simp[intOf];omega⟩
      · skip
        have ai:(k:Int)<(s.size:Int):=by omega
        have a0:(0:Int)≤(s.size:Int)-1-(k:Int):=by omega
        have a1:((s.size:Int)-1-(k:Int)).toNat=s.size-1-k:=by omega
        have a2:(s.size:Int)-1-(k:Int)<(s.size:Int):=by omega
        have hda:=el s HDA.out (s.size-1-k) (by omega);have HDI:=hid (iH s k ha');have bi:¬(k:Int)<(t.size:Int):=by omega
        have HDJ:=hid (jz t.data.toList k (by rw[size_data];exact hb'))
        go_wp2
        obtain ⟨u,hu⟩:∃u,cc+di s.data.toList k+di t.data.toList k=u:=⟨_,rfl⟩
        have hE:(cc:Int)+((s[s.size-1-k].toNat:Int)-48)=(u:Int):=by rw[←hu,HDI.out,HDJ.out];omega
        rw[hE];exact ⟨⟨k+1,u / 10,q.set (n-1-k) (dg (u % 10)),by omega,by go_num,rfl,HSP.out u hu.symm,HW.out.set _ _ _ (by rw[←HDG.out u];omega),HBl.out.setCell (aj _) _⟩,by simp[intOf];omega⟩
    · skip
      by_cases hb':k<t.size
      · exfalso;omega
      · skip
        have ai:¬(k:Int)<(s.size:Int):=by omega
        have HDI:=hid (jz s.data.toList k (by rw[size_data];exact ha'));have bi:¬(k:Int)<(t.size:Int):=by omega
        have HDJ:=hid (jz t.data.toList k (by rw[size_data];exact hb'))
        go_wp2
        obtain ⟨u,hu⟩:∃u,cc+di s.data.toList k+di t.data.toList k=u:=⟨_,rfl⟩
        have hE:(cc:Int)=(u:Int):=by rw[←hu,HDI.out,HDJ.out];omega
        rw[hE];exact ⟨⟨k+1,u / 10,q.set (n-1-k) (dg (u % 10)),by omega,by go_num,rfl,HSP.out u hu.symm,HW.out.set _ _ _ (by rw[←HDG.out u];omega),HBl.out.setCell (aj _) _⟩,by simp[intOf];omega⟩
  · obtain rfl:k=n:=by omega
    have HD:Hid (cn q=aU (x+y)):=hid (by rw[HR.out.done HDA.out HDB.out (by rw[size_data];omega) (by rw[size_data];omega),HV.out.1,HV.out.2]);have hcv:=iG HW.out k hql.symm;have htr:=d7 ⟨q.toArray⟩ wr (by rw[sz_txt];omega);rw[show (⟨q.toArray⟩:ByteArray).data.toList=q from rfl,HD.out] at htr
    go_wp2_with fail
    refine htr.mono ?_;rintro e w1 ⟨rfl,hb1⟩;have HB1:=hid (HBl.out.trans (hb1.mono HBl.out.size));clear hb1 htr hcv
    go_wp2
    go_ret
    exact ⟨rfl,HB1.out⟩
theorem nC (s t:ByteArray) (x y:Nat) (w:World) (hs:s.data.toList=aU x) (ht:t.data.toList=aU y) (h1:s.size≤1000000) (h2:t.size≤1000000):Calls prog 149 #[.string s,.string t] w fun e w'=>e=.returned (.string ⟨(aU (x+y)).toArray⟩)∧Below w.heap.size w w':=by
 by_cases h:s.size<t.size
 · exact pE s t x y w hs ht h1 h2 h
 · exact pF s t x y w hs ht h1 h2 (by omega)
theorem fW (s t:ByteArray) (x y:Nat) (w:World) (hs:s.data.toList=aU x) (ht:t.data.toList=aU y) (h1:s.size≤1000000) (hle:y≤x):Calls prog 147 #[.string s,.string t] w fun e w'=>e=.returned (.string ⟨(aU (x-y)).toArray⟩)∧Below w.heap.size w w':=by
 have HDA:Hid (s.data.toList.all isD=true):=hid (by rw[hs];exact bg x);have HDB:Hid (t.data.toList.all isD=true):=hid (by rw[ht];exact bg y);have HV:Hid (dv s.data.toList=x∧dv t.data.toList=y):=hid (by rw[hs,ht,cg,cg];exact ⟨rfl,rfl⟩);have h0:0<s.size:=by rw[←size_data,hs];exact dE x
 have h2:t.size≤s.size:=by
  rw[←size_data,←size_data,hs,ht];rcases Nat.lt_or_ge (aU x).length (aU y).length with h | h
  · have:=mn h;omega
  · exact h
 have HLE:=hid hle;clear hs ht hle;have hmk:=mN s.size (by omega) (s.size:Int) rfl;have HST:=hid (BR.new w (List.replicate s.size 0));have HBE:Hid (Below w.heap.size w (w.alloc (.cells (bcs (List.replicate s.size 0)).toArray 5))):=hid ((am _ _).alloc (aj _) _);have HS0:Hid (SubD s.data.toList t.data.toList (List.replicate s.size 0) s.size 0 0):=hid (SubD.start _ _ _ s.size List.length_replicate)
 go_enter func147,ntmps147
 go_wp2
 go_loopw [6,7] (fun c i wr=>∃(k cc:Nat) (q:List UInt8),k≤s.size∧i=.int .i64 k∧c=.int .i64 cc∧SubD s.data.toList t.data.toList q s.size k cc∧BR wr w.heap.size q∧Below w.heap.size w wr) (fun _ i _=>s.size-(intOf i).toNat)
 case atStart=>exact ⟨0,0,_,aM _,rfl,rfl,HS0.out,HST.out,HBE.out⟩
 case round=>
  obtain ⟨k,cc,q,hk,rfl,rfl,hadd,hbr,hbel⟩:=hrel;have HR:=hid hadd;have HW:=hid hbr;have HBl:=hid hbel;have hql:=hadd.len;have hc1:(cc:Int)≤1:=by have:=hadd.c1;omega
  have hc0:(0:Int)≤cc:=by omega
  clear hadd hbr hbel HST HBE HS0
  by_cases hlt:k<s.size
  · have hcw:=HW.out.cell (s.size-1-k) (by omega);have hfw:=HW.out.fz (s.size-1-k);have ai:(k:Int)<(s.size:Int):=by omega
    have a0:(0:Int)≤(s.size:Int)-1-(k:Int):=by omega
    have a1:((s.size:Int)-1-(k:Int)).toNat=s.size-1-k:=by omega
    have a2:(s.size:Int)-1-(k:Int)<(s.size:Int):=by omega
    have hda:=el s HDA.out (s.size-1-k) (by omega);have HDI:=hid (iH s k hlt);generalize q.getD (s.size-1-k) 0=z at *;have HSP:Hid (∀u c',u+cc+di t.data.toList k=di s.data.toList k+10*c'→u<10→c'≤1→SubD s.data.toList t.data.toList (q.set (s.size-1-k) (dg u)) s.size (k+1) c'):=hid (fun u c' hu h10 hc=>HR.out.step hlt u c' hu h10 hc)
    by_cases hb:k<t.size
    · have bi:(k:Int)<(t.size:Int):=by omega
      have b0:(0:Int)≤(t.size:Int)-1-(k:Int):=by omega
      have b1:((t.size:Int)-1-(k:Int)).toNat=t.size-1-k:=by omega
      have b2:(t.size:Int)-1-(k:Int)<(t.size:Int):=by omega
      have hdb:=el t HDB.out (t.size-1-k) (by omega);have HDJ:=hid (iH t k hb)
      by_cases hneg:((s[s.size-1-k].toNat:Int)-48)-(cc:Int)-((t[t.size-1-k].toNat:Int)-48)<0
      · obtain ⟨u,hu⟩:∃u:Nat,((s[s.size-1-k].toNat:Int)-48)-(cc:Int)-((t[t.size-1-k].toNat:Int)-48)+10=(u:Int):=⟨(((s[s.size-1-k].toNat:Int)-48)-(cc:Int)-((t[t.size-1-k].toNat:Int)-48)+10).toNat,by omega⟩
        have hu10:u<10:=by omega
        have HST:=hid (HSP.out u 1 (by have h1:=HDI.out;have h2:=HDJ.out;omega) hu10 (by omega));have HDG:Hid ((48+u:Int)=((dg u).toNat:Int)):=hid (by rw[cj hu10];omega)
        go_wp2
        try rw[hu]
        exact ⟨⟨k+1,1,q.set (s.size-1-k) (dg u),by omega,by go_num,rfl,HST.out,HW.out.set _ _ _ HDG.out,HBl.out.setCell (aj _) _⟩,by simp[intOf];omega⟩
      · obtain ⟨u,hu⟩:∃u:Nat,((s[s.size-1-k].toNat:Int)-48)-(cc:Int)-((t[t.size-1-k].toNat:Int)-48)=(u:Int):=⟨(((s[s.size-1-k].toNat:Int)-48)-(cc:Int)-((t[t.size-1-k].toNat:Int)-48)).toNat,by omega⟩
        have hu10:u<10:=by omega
        have HST:=hid (HSP.out u 0 (by have h1:=HDI.out;have h2:=HDJ.out;omega) hu10 (by omega));have HDG:Hid ((48+u:Int)=((dg u).toNat:Int)):=hid (by rw[cj hu10];omega)
        go_wp2
        try rw[hu]
        exact ⟨⟨k+1,0,q.set (s.size-1-k) (dg u),by omega,by go_num,rfl,HST.out,HW.out.set _ _ _ HDG.out,HBl.out.setCell (aj _) _⟩,by simp[intOf];omega⟩
    · have bi:¬(k:Int)<(t.size:Int):=by omega
      have HDJ:=hid (jz t.data.toList k (by rw[size_data];exact hb))
      by_cases hneg:((s[s.size-1-k].toNat:Int)-48)-(cc:Int)<0
      · obtain ⟨u,hu⟩:∃u:Nat,((s[s.size-1-k].toNat:Int)-48)-(cc:Int)+10=(u:Int):=⟨(((s[s.size-1-k].toNat:Int)-48)-(cc:Int)+10).toNat,by omega⟩
        have hu10:u<10:=by omega
        have HST:=hid (HSP.out u 1 (by have h1:=HDI.out;have h2:=HDJ.out;omega) hu10 (by omega));have HDG:Hid ((48+u:Int)=((dg u).toNat:Int)):=hid (by rw[cj hu10];omega)
        go_wp2
        try rw[hu]
        exact ⟨⟨k+1,1,q.set (s.size-1-k) (dg u),by omega,by go_num,rfl,HST.out,HW.out.set _ _ _ HDG.out,HBl.out.setCell (aj _) _⟩,by simp[intOf];omega⟩
      · obtain ⟨u,hu⟩:∃u:Nat,((s[s.size-1-k].toNat:Int)-48)-(cc:Int)=(u:Int):=⟨(((s[s.size-1-k].toNat:Int)-48)-(cc:Int)).toNat,by omega⟩
        have hu10:u<10:=by omega
        have HST:=hid (HSP.out u 0 (by have h1:=HDI.out;have h2:=HDJ.out;omega) hu10 (by omega));have HDG:Hid ((48+u:Int)=((dg u).toNat:Int)):=hid (by rw[cj hu10];omega)
        go_wp2
        try rw[hu]
        exact ⟨⟨k+1,0,q.set (s.size-1-k) (dg u),by omega,by go_num,rfl,HST.out,HW.out.set _ _ _ HDG.out,HBl.out.setCell (aj _) _⟩,by simp[intOf];omega⟩
  · obtain rfl:k=s.size:=by omega
    have HD:Hid (cn q=aU (x-y)):=hid (by rw[HR.out.done h0 (by rw[size_data];exact aj _) (by rw[size_data];exact h2) (by rw[HV.out.1,HV.out.2];exact HLE.out),HV.out.1,HV.out.2]);have hcv:=iG HW.out s.size hql.symm;have htr:=d7 ⟨q.toArray⟩ wr (by rw[sz_txt];omega);rw[show (⟨q.toArray⟩:ByteArray).data.toList=q from rfl,HD.out] at htr
    go_wp2_with fail
    refine htr.mono ?_;rintro e w1 ⟨rfl,hb1⟩;have HB1:=hid (HBl.out.trans (hb1.mono HBl.out.size));clear hb1 htr hcv
    go_wp2
    go_ret
    exact ⟨rfl,HB1.out⟩
def lH (l:List Nat):List Value:=l.map fun (n:Nat)=>Value.int .i64 (n:Int)
theorem yg (l:List Nat) (i x:Nat):(lH l).toArray.setIfInBounds i (.int .i64 (x:Int))=(lH (l.set i x)).toArray:=by
 simp[lH,List.map_set]
theorem zG (l:List Nat) (i:Nat) (hi:i<l.length):(lH l)[i]? =some (.int .i64 ((l.getD i 0:Nat):Int)):=by
 simp[lH,List.getD_eq_getElem?_getD,hi]
def IR (w:World) (g:Nat) (l:List Nat):Prop:=w.heap[g]? =some (.cells (lH l).toArray 3 (0,0))
theorem IR.set {w:World} {g:Nat} {l:List Nat} (h:IR w g l) (i x:Nat) (z:Int) (hz:z=x):IR (w.setCell ⟨g,i,none⟩ (.int .i64 z)) g (l.set i x):=by
 subst hz;unfold IR;rw[←yg];exact heap_set h i _
theorem IR.cell {w:World} {g:Nat} {l:List Nat} (h:IR w g l) (i:Nat) (hi:i<l.length):w.cell? ⟨g,i,none⟩=some (.int .i64 ((l.getD i 0:Nat):Int)):=by
 rw[aa h i];simpa using zG l i hi
theorem IR.fz {w:World} {g:Nat} {l:List Nat} (h:IR w g l) (i:Nat):w.frozen? ⟨g,i,none⟩=false:=aK h i
theorem IR.new (w:World) (l:List Nat):IR (w.alloc (.cells (lH l).toArray 3)) w.heap.size l:=aq w _
theorem IR.far {w w':World} {g:Nat} {l:List Nat} (h:IR w g l) (hb:Below w.heap.size w w'):IR w' g l:=(hb.block g (ar h)).trans h
theorem infoInt:(prog.info? 3).map (fun i=>(i.zero,i.size,i.bytes))=some (some (.int .i64 0),1,8):=by kernel_rfl
theorem yh (n:Nat):madeCells (Value.cells (.int .i64 0)) (n*1)=(lH (List.replicate n 0)).toArray:=by
 apply Array.ext
 · simp[madeCells,lH]
 · intro i h1 h2
   simp[madeCells,lH,Value.cells,Nat.mod_one]
theorem zH (n:Nat) (hn:n≤1000000000) (z:Int) (hz:z=n) (W:World):
    (Instr.makeSlice 33 (.int .i64 z) (.int .i64 z)).run prog W=.ok (.slice (some ⟨W.heap.size,0,none⟩) n n) (W.alloc (.cells (lH (List.replicate n 0)).toArray 3)):=by
 subst hz;obtain ⟨i0,hi,hz0,hz1,hz2⟩:=info_parts infoInt;have hr:=run_make (P:=prog) W 33 3 i0 _ underlying33 hi hz0 .i64 .i64 n n (by omega) (by omega) (by rw[hz2];omega) (by omega);rw[hz1,Int.toNat_natCast,yh] at hr;exact hr
theorem tI (s:ByteArray) (k:Nat) (hk:k<s.size):fd s.data.toList k=(s[k]).toNat-48:=by
 have:=byte_at s k hk;unfold fd;rw[aA,this];rfl
theorem bL (s t:ByteArray) (x y:Nat) (w:World) (hs:s.data.toList=aU x) (ht:t.data.toList=aU y) (h1:s.size≤100000) (h2:t.size≤100000):Calls prog 65 #[.string s,.string t] w fun e w'=>e=.returned (.string ⟨(aU (x*y)).toArray⟩)∧Below w.heap.size w w':=by
 have HDA:Hid (s.data.toList.all isD=true):=hid (by rw[hs];exact bg x);have HDB:Hid (t.data.toList.all isD=true):=hid (by rw[ht];exact bg y);have HV:Hid (dv s.data.toList=x∧dv t.data.toList=y):=hid (by rw[hs,ht,cg,cg];exact ⟨rfl,rfl⟩);have h0:0<s.size:=by rw[←size_data,hs];exact dE x
 clear hs ht;have hls:=size_data s;have hlt:=size_data t;have HLS:=hid hls;have HLT:=hid hlt;have HS0:=hid (MulD.start s.data.toList t.data.toList);rw[hls,hlt] at HS0;obtain ⟨n,hn⟩:∃n,s.size+t.size=n:=⟨_,rfl⟩
 have hni:(s.size:Int)+(t.size:Int)=(n:Int):=by omega
 have hn2:n≤200000:=by omega
 have HN:=hid hn;rw[hn] at HS0;clear hls hlt hn;have hmk:=zH n (by omega) (n:Int) rfl;have hmr:=mN n (by omega) (n:Int) rfl;have HST:=hid (IR.new w (List.replicate n 0));have HBE:Hid (Below w.heap.size w (w.alloc (.cells (lH (List.replicate n 0)).toArray 3))):=hid ((am _ _).alloc (aj _) _)
 go_enter func65,ntmps65
 go_wp2
 go_loopw [6] (fun i wr=>∃(k:Nat) (L:List Nat),k≤s.size∧i=.int .i64 k∧MulD s.data.toList t.data.toList L k 0∧IR wr w.heap.size L∧Below w.heap.size w wr) (fun i _=>s.size-(intOf i).toNat)
 case atStart=>exact ⟨0,_,aM _,rfl,HS0.out,HST.out,HBE.out⟩
 case round=>
  obtain ⟨k,L,hk,rfl,hmu,hir,hbel⟩:=hrel;have HR:=hid hmu;have HW:=hid hir;have HBl:=hid hbel;clear hmu hir hbel HST HBE HS0
  by_cases hlt:k<s.size
  · have hda:=el s HDA.out k hlt;have HDI:=hid (tI s k hlt)
    go_wp2
    go_loopw [7] (fun i wr=>∃(j:Nat) (L:List Nat),j≤t.size∧i=.int .i64 j∧MulD s.data.toList t.data.toList L k j∧IR wr w.heap.size L∧Below w.heap.size w wr) (fun i _=>t.size-(intOf i).toNat)
    case atStart=>exact ⟨0,_,aM _,rfl,HR.out,HW.out,HBl.out⟩
    case round=>
     clear HR HW HBl;obtain ⟨j,L,hj,rfl,hmu,hir,hbel⟩:=hrel;have HR:=hid hmu;have HW:=hid hir;have HBl:=hid hbel;have hln:L.length=n:=by rw[hmu.len,HLS.out,HLT.out,HN.out]
     have hle:=hmu.le;rw[HLT.out] at hle;clear hmu hir hbel
     by_cases hjt:j<t.size
     · have hdb:=el t HDB.out j hjt;have HDJ:=hid (tI t j hjt);have hnn:=HN.out;have hcw:=HW.out.cell (k+j+1) (by omega);have hfw:=HW.out.fz (k+j+1);have HSP:=hid (HR.out.step HDA.out HDB.out (by rw[HLS.out];exact hlt) (by rw[HLT.out];exact hjt));have hbd:=hle (k+j+1);have hkt:k*t.size≤100000*100000:=Nat.mul_le_mul (by omega) h2;have q0:(0:Int)≤(k:Int)+(j:Int)+1:=by omega
       have q1:((k:Int)+(j:Int)+1).toNat=k+j+1:=by omega
       have q2:(k:Int)+(j:Int)+1<(n:Int):=by omega
       have HMUL:Hid (((s[k].toNat:Int)-48)*((t[j].toNat:Int)-48)=((fd s.data.toList k*fd t.data.toList j:Nat):Int)):=hid (by
        rw[HDI.out,HDJ.out,Int.natCast_mul];congr 1 <;> omega)
       have hm81:fd s.data.toList k*fd t.data.toList j≤9*9:=Nat.mul_le_mul (by have:=HDI.out;omega) (by have:=HDJ.out;omega);generalize fd s.data.toList k*fd t.data.toList j=p at *;generalize L.getD (k+j+1) 0=z at *;have hz1:(z:Int)≤1000000000000:=by omega
       have hz0:(0:Int)≤(z:Int):=by omega
       have hm:=HMUL.out;have hw1:IntKind.i64.wrap (p:Int)=(p:Int):=by rw[IntKind.wrap_i64];omega
       have hw2:IntKind.i64.wrap ((z:Int)+(p:Int))=(z:Int)+(p:Int):=by rw[IntKind.wrap_i64];omega
       have hw3:IntKind.i64.wrap ((k:Int)+(j:Int))=(k:Int)+(j:Int):=by rw[IntKind.wrap_i64];omega
       have hw4:IntKind.i64.wrap ((k:Int)+(j:Int)+1)=(k:Int)+(j:Int)+1:=by rw[IntKind.wrap_i64];omega
       have hw5:IntKind.u8.wrap ((s[k].toNat:Int)-48)=(s[k].toNat:Int)-48:=by rw[IntKind.wrap_u8];omega
       have hw6:IntKind.u8.wrap ((t[j].toNat:Int)-48)=(t[j].toNat:Int)-48:=by rw[IntKind.wrap_u8];omega
       have hw7:IntKind.i64.wrap ((s[k].toNat:Int)-48)=(s[k].toNat:Int)-48:=by rw[IntKind.wrap_i64];omega
       have hw8:IntKind.i64.wrap ((t[j].toNat:Int)-48)=(t[j].toNat:Int)-48:=by rw[IntKind.wrap_i64];omega
       clear hle hkt hbd hnn
       go_wp2
       go_still_tail 20,(by kernel_rfl)
       change wpList _ _ _ _ _ wr.drew;have HW2:Hid (IR wr.drew w.heap.size L):=hid HW.out;have HB2:Hid (Below w.heap.size w wr.drew):=hid HBl.out.drew;have hcw2:wr.drew.cell? ⟨w.heap.size,k+j+1,none⟩=some (.int .i64 (z:Int)):=hcw;have hfw2:wr.drew.frozen? ⟨w.heap.size,k+j+1,none⟩=false:=hfw;generalize wr.drew=w2 at *
       go_wp2
       exact ⟨⟨j+1,_,by omega,by go_num,HSP.out,HW2.out.set _ _ _ (by omega),HB2.out.setCell (aj _) _⟩,by simp[intOf];omega⟩
     · obtain rfl:j=t.size:=by omega
       have HNX:=hid (MulD.next (by have:=HR.out;rwa [←HLT.out] at this) (by rw[HLS.out];exact hlt))
       go_wp2
       go_roundw
       case rel=>exact ⟨k+1,_,by omega,by go_num,HNX.out,HW.out,HBl.out⟩
       case measure=>simp[intOf];omega
  · obtain rfl:k=s.size:=by omega
    have hln:L.length=n:=by rw[HR.out.len,HLS.out,HLT.out,HN.out]
    have hle:=HR.out.le;rw[HLT.out,Nat.add_zero] at hle
    have HVT:Hid (vt L=x*y):=hid (by
     have h:=HR.out;rw[←HLS.out] at h
     rw[h.done,HV.out.1,HV.out.2])
    have HLT10:Hid (vt L<10 ^ n):=hid (by
     rw[HVT.out,←HV.out.1,←HV.out.2,←HN.out,Nat.pow_add,←HLS.out,←HLT.out];have h1:=ir _ HDA.out;have h2:=ir _ HDB.out;rcases Nat.eq_zero_or_pos (dv t.data.toList) with h | h
     · rw[h,Nat.mul_zero];exact Nat.mul_pos (Nat.pow_pos (by omega)) (Nat.pow_pos (by omega))
     · exact Nat.mul_lt_mul_of_lt_of_le h1 (aL h2) (Nat.pow_pos (by omega)))
    have hst:s.size*t.size≤100000*100000:=Nat.mul_le_mul h1 h2;obtain ⟨M,hM⟩:∃M,81*(s.size*t.size)=M:=⟨_,rfl⟩
    rw[hM] at hle;have hM2:M≤810000000000:=by omega
    have HLE:=hid hle;have hn0:0<n:=by have:=HN.out;omega
    have hsz:=ar HW.out;have HBR:=hid (BR.new wr (List.replicate n 0));have HBA:Hid (Below wr.heap.size wr (wr.alloc (.cells (bcs (List.replicate n 0)).toArray 5))):=hid ((am _ _).alloc (aj _) _);have HC0:=hid (CarD.start L (List.replicate n 0) n M List.length_replicate hln);clear hle hst hM HR;obtain ⟨wo,rfl⟩:∃wo:World,wo=wr:=⟨_,rfl⟩
    go_wp2
    go_loopw [9,10] (fun c i wr=>∃(m cc:Nat) (q:List UInt8),m≤n∧i=.int .i64 ((n:Int)-1-m)∧c=.int .i64 cc∧CarD L q n M m cc∧BR wr wo.heap.size q∧Below wo.heap.size wo wr) (fun _ i _=>(intOf i+1).toNat)
    case atStart=>exact ⟨0,0,_,aM _,by simp,rfl,HC0.out,HBR.out,HBA.out⟩
    case round=>
     clear HC0 HBR HBA;obtain ⟨m,cc,q,hm,rfl,rfl,hcar,hbr,hbel⟩:=hrel;have HR:=hid hcar;have HB:=hid hbr;have HBb:=hid hbel;have hql:=hcar.len;have hc1:=hcar.c1;clear hcar hbr hbel
     by_cases hmn:m<n
     · have hge:(0:Int)≤(n:Int)-1-(m:Int):=by omega
       have p1:((n:Int)-1-(m:Int)).toNat=n-1-m:=by omega
       have p2:(n:Int)-1-(m:Int)<(n:Int):=by omega
       have hcl:=(HW.out.far HBb.out).cell (n-1-m) (by omega);have hcw:=HB.out.cell (n-1-m) (by omega);have hfw:=HB.out.fz (n-1-m);have HSP:Hid (∀u,u=L.getD (n-1-m) 0+cc→CarD L (q.set (n-1-m) (dg (u % 10))) n M (m+1) (u / 10)):=hid (fun u hu=>HR.out.step hln HLE.out hmn u hu);have hv:=HLE.out (n-1-m);generalize q.getD (n-1-m) 0=z at *;generalize L.getD (n-1-m) 0=v at *;obtain ⟨u,hu⟩:∃u,v+cc=u:=⟨_,rfl⟩
       have hui:(v:Int)+(cc:Int)=(u:Int):=by omega
       have HST:=hid (HSP.out u hu.symm);have HDG:Hid ((48+(u:Int) % 10)=((dg (u % 10)).toNat:Int)):=hid (by rw[cj (Nat.mod_lt _ (by omega))];omega);have hu1:u≤2000000000000:=by omega
       clear hu HSP
       go_wp2
       exact ⟨⟨m+1,u / 10,q.set (n-1-m) (dg (u % 10)),by omega,by congr 1;omega,by go_num,HST.out,HB.out.set _ _ _ HDG.out,HBb.out.setCell (aj _) _⟩,by simp[intOf];omega⟩
     · obtain rfl:m=n:=by omega
       have hneg:¬(0:Int)≤(m:Int)-1-(m:Int):=by omega
       have HD:Hid (cn q=aU (x*y)):=hid (by rw[HR.out.done hn0 HLT10.out,HVT.out]);have hcv:=iG HB.out m hql.symm;have htr:=d7 ⟨q.toArray⟩ wr (by rw[sz_txt];omega);rw[show (⟨q.toArray⟩:ByteArray).data.toList=q from rfl,HD.out] at htr
       go_wp2_with fail
       refine htr.mono ?_;rintro e w1 ⟨rfl,hb1⟩;have HB1:=hid (HBl.out.trans ((HBb.out.trans (hb1.mono HBb.out.size)).mono HBl.out.size));clear hb1 htr hcv
       go_wp2
       go_ret
       exact ⟨rfl,HB1.out⟩
theorem zI (l:List UInt8):(⟨l.toArray⟩:ByteArray).data.toList=l:=rfl
theorem rl {R B n:Nat} (h:R<B) (hB:(aU B).length≤n):(aU R).length≤n:=by
 rcases Nat.lt_or_ge n (aU R).length with h1 | h1
 · have:=mn (m:=B) (n:=R) (by omega);omega
 · exact h1
theorem yi (r s:ByteArray) (k:Nat) (hk:k<s.size):(r++s.extract k (k+1)).data.toList=r.data.toList++[s[k]]:=by
 rw[ByteArray.data_append,Array.toList_append,ex_data]
 congr 1
 rw[Nat.add_sub_cancel_left,List.take_one,List.head?_drop,byte_at s k hk];rfl
def Al:Value→List UInt8
 | .string b=>b.data.toList
 | _=>[]
theorem fX (s t:ByteArray) (x y:Nat) (w:World) (hs:s.data.toList=aU x) (ht:t.data.toList=aU y) (h1:s.size≤100000) (h2:t.size≤100000) (hy:0<y):Calls prog 102 #[.string s,.string t] w fun e w'=>e=.returned (.tuple #[.string ⟨(aU (x / y)).toArray⟩,.string ⟨(aU (x % y)).toArray⟩])∧Below w.heap.size w w':=by
 have HDA:Hid (s.data.toList.all isD=true):=hid (by rw[hs];exact bg x);have HV:Hid (dv s.data.toList=x):=hid (by rw[hs,cg]);have h0:0<s.size:=by rw[←size_data,hs];exact dE x
 have HLS:=hid (size_data s);have HT:=hid ht;have HTL:Hid ((aU y).length=t.size):=hid (by rw[←ht,size_data]);clear hs ht;have hmr:=mN s.size (by omega) (s.size:Int) rfl;have HST:=hid (BR.new w (List.replicate s.size 0));have HBE:Hid (Below w.heap.size w (w.alloc (.cells (bcs (List.replicate s.size 0)).toArray 5))):=hid ((am _ _).alloc (aj _) _);have HS0:Hid (LdD s.data.toList y (List.replicate s.size 0) 0 0):=hid (LdD.start _ _ y (by rw[List.length_replicate,size_data]) hy)
 go_enter func102,ntmps102
 go_wp2
 go_loopw [7,8] (fun rv i wr=>∃(k R:Nat) (q:List UInt8) (rb:ByteArray),k≤s.size∧i=.int .i64 k∧rv=.string rb∧rb.data.toList=aU R∧LdD s.data.toList y q k R∧BR wr w.heap.size q∧Below w.heap.size w wr) (fun _ i _=>s.size-(intOf i).toNat)
 case atStart=>exact ⟨0,0,_,⟨#[48]⟩,aM _,rfl,rfl,ew.symm,HS0.out,HST.out,HBE.out⟩
 case round=>
  obtain ⟨k,R,q,rb,hk,rfl,rfl,hrb,hld,hbr,hbel⟩:=hrel;have HRB:=hid hrb;have HR:=hid hld;have HW:=hid hbr;have HBl:=hid hbel;have hql:q.length=s.size:=by rw[hld.len,HLS.out]
  have HRL:=hid hld.r1;have hrs:rb.size≤100000:=by rw[←size_data,hrb];exact rl hld.r1 (by rw[HTL.out];exact h2)
  clear hrb hld hbr hbel HST HBE HS0
  by_cases hlt:k<s.size
  · have hda:=el s HDA.out k hlt;have HDI:=hid (tI s k hlt);have HD1:Hid (isD s[k]=true):=hid (cA.2 hda);have hx1:(s.extract k (k+1)).size=1:=by rw[ByteArray.size_extract];omega
    have HAPP:=hid (yi rb s k hlt);have hsz:(rb++s.extract k (k+1)).size=rb.size+1:=by rw[ByteArray.size_append,hx1]
    have htr:=d7 (rb++s.extract k (k+1)) wr (by omega);rw[HAPP.out,HRB.out,vE R _ HD1.out,←HDI.out] at htr;have hi1:(k:Int)+1≤(s.size:Int):=by omega
    clear hda
    go_wp2_with fail
    refine htr.mono ?_;rintro e w1 ⟨rfl,hb1⟩;have HW1:=hid (HW.out.far hb1);have HB1:=hid (HBl.out.trans (hb1.mono HBl.out.size));have HFD:Hid (fd s.data.toList k<10):=hid (xp _ HDA.out k);clear hb1 htr hsz hx1;obtain ⟨d,hd⟩:∃d,fd s.data.toList k=d:=⟨_,rfl⟩
    have HDE:=hid hd;rw[hd] at HFD ⊢;clear hd
    go_wp2_with fail
    go_loopw [7,9] (fun rv dv0 wr=>∃(R' j:Nat) (rb:ByteArray),rv=.string rb∧rb.data.toList=aU R'∧dv0=.int .u8 ((48+j:Nat):Int)∧R'+j*y=10*R+d∧j≤9∧BR wr w.heap.size q∧Below w.heap.size w wr) (fun rv _ _=>dv (Al rv))
    case atStart=>exact ⟨10*R+d,0,_,rfl,rfl,rfl,by omega,by omega,HW1.out,HB1.out⟩
    case round=>
     clear HW1 HB1;obtain ⟨R',j,rb',rfl,hrb',rfl,he,hj,hbr,hbel⟩:=hrel;have HRB':=hid hrb';have HE:=hid he;have HW1:=hid hbr;have HB1:=hid hbel;have hcm:=fV rb' t R' y wr hrb' HT.out;clear hrb' he hbr hbel
     by_cases hless:R'<y
     · rw[i8 hless] at hcm;have hj9:j<10:=by omega
       have HSP:=hid (HR.out.step (by rw[HLS.out];exact hlt) hj9 hless (by rw[HE.out,HDE.out]))
       go_wp2_with fail
       refine hcm.mono ?_;rintro e w2 ⟨rfl,hb2⟩;have HW2:=hid (HW1.out.far hb2);have HB2:=hid (HB1.out.trans (hb2.mono HB1.out.size));have hcw:=HW2.out.cell k (by omega);have hfw:=HW2.out.fz k;have HDG:Hid (((48+j:Nat):Int)=((dg j).toNat:Int)):=hid (by rw[cj hj9]);clear hb2 hcm;generalize q.getD k 0=z at *
       go_wp2_with fail
       exact ⟨⟨k+1,R',q.set k (dg j),rb',by omega,by go_num,rfl,HRB'.out,HSP.out,HW2.out.set _ _ _ HDG.out,HB2.out.setCell (aj _) _⟩,by simp[intOf];omega⟩
     · have hge:¬eS R' y<0:=by
         rcases Nat.lt_or_ge y R' with h | h
         · rw[gQ h];omega
         · rw[ja (by omega)];omega
       have hj1:=xr HRL.out HFD.out HE.out (by omega);have HST:=hid (show R'-y+(j+1)*y=10*R+d by rw[←HE.out,Nat.add_mul];omega)
       have hrs':rb'.size≤1000000:=by
        rw[←size_data,HRB'.out]
        have h10:R'<10*y:=by
         have:=HE.out;have:=HRL.out;have:=HFD.out;have:0≤j*y:=aM _
         omega
        have:(aU R').length≤(aU y).length+1:=cQ (by omega) (by
         have:=(jV y (by omega)).2
         rw[Nat.pow_succ];omega)
        rw[HTL.out] at this;omega
       have hsu:=fun W=>fW rb' t R' y W HRB'.out HT.out hrs' (by omega)
       have HDV:Hid (dv rb'.data.toList=R'):=hid (by rw[HRB'.out,cg]);generalize eS R' y=cv at *
       go_wp2_with fail
       refine hcm.mono ?_;rintro e w2 ⟨rfl,hb2⟩;have HW2:=hid (HW1.out.far hb2);have HB2:=hid (HB1.out.trans (hb2.mono HB1.out.size));clear hb2 hcm
       go_wp2_with fail
       refine (hsu _).mono ?_;rintro e w3 ⟨rfl,hb3⟩;have HW3:=hid (HW2.out.far hb3);have HB3:=hid (HB2.out.trans (hb3.mono HB2.out.size));clear hb3 hsu
       go_wp2_with fail
       go_roundw
       case rel=>exact ⟨R'-y,j+1,_,rfl,rfl,by go_num,HST.out,by omega,HW3.out,HB3.out⟩
       case measure=>
        show dv (aU (R'-y))<dv rb'.data.toList;rw[cg,HDV.out];omega
  · obtain rfl:k=s.size:=by omega
    have HDO:=hid ((show LdD s.data.toList y q s.data.toList.length R from by rw[HLS.out];exact HR.out).done (by intro e;have:=HLS.out;rw[e] at this;simp at this;omega));rw[HV.out] at HDO;have hcv:=iG HW.out s.size hql.symm;have htr:=d7 ⟨q.toArray⟩ wr (by rw[sz_txt];omega);rw[zI,HDO.out.1] at htr;have HRE:Hid (rb=⟨(aU (x % y)).toArray⟩):=hid (d6 _ _ (by rw[HRB.out,HDO.out.2]));obtain rfl:=HRE.out
    go_wp2_with fail
    refine htr.mono ?_;rintro e w1 ⟨rfl,hb1⟩;have HB1:=hid (HBl.out.trans (hb1.mono HBl.out.size));clear hb1 htr hcv
    go_wp2_with fail
    go_ret2
    exact ⟨rfl,HB1.out⟩
theorem nD (s t:ByteArray) (x y:Nat) (w:World) (hs:s.data.toList=aU x) (ht:t.data.toList=aU y) (h1:s.size≤100000) (h2:t.size≤100000):Calls prog 101 #[.string s,.string t] w fun e w'=>e=.returned (.string ⟨(aU (x.gcd y)).toArray⟩)∧Below w.heap.size w w':=by
 have HS:=hid hs;have HT:=hid ht;clear hs ht
 go_enter func101,ntmps101
 go_wp2
 go_loopw [0,1] (fun a b wr=>∃(p q:Nat) (sa sb:ByteArray),a=.string sa∧b=.string sb∧sa.data.toList=aU p∧sb.data.toList=aU q∧sa.size≤100000∧sb.size≤100000∧p.gcd q=x.gcd y∧Below w.heap.size w wr) (fun _ b _=>dv (Al b))
 case atStart=>exact ⟨x,y,s,t,rfl,rfl,HS.out,HT.out,h1,h2,rfl,am _ _⟩
 case round=>
  obtain ⟨p,q,sa,sb,rfl,rfl,ha,hb,hla,hlb,hg,hbel⟩:=hrel;have HA:=hid ha;have HB:=hid hb;have HG:=hid hg;have HBl:=hid hbel;have hsb:sb.toList=aU q:=by rw[ByteArray.toList_eq,hb]
  clear ha hb hg hbel
  by_cases hq:q=0
  · subst hq;have h48:(sb.toList==[48])=true:=by rw[hsb,ew];rfl
    have HE:Hid (sa=⟨(aU (x.gcd y)).toArray⟩):=hid (d6 _ _ (by rw[←HG.out,Nat.gcd_zero_right,HA.out]));clear hsb
    go_wp2
    go_ret
    exact ⟨bK HE.out,HBl.out⟩
  · have h48:(sb.toList==[48])=false:=by
      rw[beq_eq_false_iff_ne,hsb,ne_eq,ef];exact hq
    have hdm:=fX sa sb p q wr HA.out HB.out hla hlb (by omega);have HR:Hid (q.gcd (p % q)=x.gcd y):=hid (by rw[←HG.out,Nat.gcd_comm p q,Nat.gcd_rec q p,Nat.gcd_comm]);have hlt:p % q<q:=Nat.mod_lt _ (by omega);have hl:(aU (p % q)).length≤100000:=rl hlt (by rw[←HB.out,size_data];exact hlb);have HDV:Hid (dv sb.data.toList=q):=hid (by rw[HB.out,cg]);clear hsb
    go_wp2_with fail
    refine hdm.mono ?_;rintro e w1 ⟨rfl,hb1⟩;have HB1:=hid (HBl.out.trans (hb1.mono HBl.out.size));clear hb1 hdm
    go_wp2_with fail
    go_roundw
    case rel=>exact ⟨q,p % q,sb,_,rfl,rfl,HB.out,rfl,hlb,by rw[sz_txt];exact hl,HR.out,HB1.out⟩
    case measure=>
     show dv (aU (p % q))<dv sb.data.toList;rw[cg,HDV.out];exact hlt
def iI (q:Rat):Value:=.agg #[.bool (decide (q.num<0)),.string ⟨(aU q.num.natAbs).toArray⟩,.string ⟨(aU q.den).toArray⟩]
theorem Am {w:World} {R:Nat} {x y z a b c:Value} {t:TypeId} (h:w.heap[R]? =some (.cells #[a,b,c] t (0,0))):(((w.setCell ⟨R,0,none⟩ x).setCell ⟨R,1,none⟩ y).setCell ⟨R,2,none⟩ z).heap[R]? =some (.cells #[x,y,z] t (0,0)):=by
 have:=heap_set (heap_set (heap_set h 0 x) 1 y) 2 z
 simpa using this
theorem tJ {fn:Func} {t:Tmp} {a:Act} {w w2:World} {R:Nat} {v0 v1 v2 x0 x1 x2:Value} {Q:Ending→World→Prop} (hres:fn.results=#[.cell t 101]) (hd:a.defers=[]) (ht:a.tmps.getD t undef=.pointer (some ⟨R,0,none⟩))
    (hR:w2.heap[R]? =some (.cells #[x0,x1,x2] 101 (0,0))) (hb:Below w.heap.size w w2) (hRB:w.heap.size≤R)
    (hQ:∀w3,Below w.heap.size w w3→Q (.returned (.agg #[v0,v1,v2])) w3):
    bodyPost prog fn Q .ret a (((w2.setCell ⟨R,0,none⟩ v0).setCell ⟨R,1,none⟩ v1).setCell ⟨R,2,none⟩ v2):=by
 have h3:=Am (x:=v0) (y:=v1) (z:=v2) hR;have hbl:=((hb.setCell (show w.heap.size≤(⟨R,0,none⟩:Addr).block from hRB) v0).setCell (show w.heap.size≤(⟨R,1,none⟩:Addr).block from hRB) v1).setCell (show w.heap.size≤(⟨R,2,none⟩:Addr).block from hRB) v2;generalize ((w2.setCell ⟨R,0,none⟩ v0).setCell ⟨R,1,none⟩ v1).setCell ⟨R,2,none⟩ v2=w3 at *;have k0:=aa h3 0;have k1:=aa h3 1;have k2:=aa h3 2
 simp at k0 k1 k2
 refine bodyPost_ret (v:=.agg #[v0,v1,v2]) ?_ hd (hQ _ hbl);have h1:a.tmps[t]?.getD undef=.pointer (some ⟨R,0,none⟩):=by simpa using ht
 simp[results,hres,go_sem,h1,k0,k1,k2]
theorem bN {g d n:Nat} (h:(aU d).length≤n) (hg:g≤d):(aU g).length≤n:=by
 rcases Nat.lt_or_ge n (aU g).length with h1 | h1
 · have:=mn (m:=d) (n:=g) (by omega);omega
 · exact h1
theorem du (neg:Bool) (s t:ByteArray) (n d:Nat) (w:World) (hs:s.data.toList=aU n) (ht:t.data.toList=aU d) (h1:s.size≤100000) (h2:t.size≤100000) (hd:0<d):Calls prog 64 #[.bool neg,.string s,.string t] w fun e w'=>e=.returned (iI (en neg n d))∧Below w.heap.size w w':=by
 obtain ⟨r1,r2⟩:=xt neg n d hd;have r3:=(jB neg n d hd).2;have HQ:Hid (iI (en neg n d)=.agg #[.bool (neg && decide (n / n.gcd d≠0)),.string ⟨(aU (n / n.gcd d)).toArray⟩,.string ⟨(aU (d / n.gcd d)).toArray⟩]):=hid (by unfold iI;rw[r1,r2,r3]);clear r1 r2 r3;have hg:=fun W=>nD s t n d W hs ht h1 h2
 have hgp:0<n.gcd d:=Nat.gcd_pos_of_pos_right _ hd;have hgl:(aU (n.gcd d)).length≤100000:=bN (by rw[←ht,size_data];exact h2) (Nat.gcd_le_right _ hd);have hn:=fun W=>fX s ⟨(aU (n.gcd d)).toArray⟩ n (n.gcd d) W hs rfl h1 (by rw[sz_txt];exact hgl) hgp
 have hdd:=fun W=>fX t ⟨(aU (n.gcd d)).toArray⟩ d (n.gcd d) W ht rfl h2 (by rw[sz_txt];exact hgl) hgp
 generalize n.gcd d=g at *;obtain ⟨n',hn'⟩:∃n',n / g=n':=⟨_,rfl⟩
 obtain ⟨d',hd'⟩:∃d',d / g=d':=⟨_,rfl⟩
 rw[hn'] at hn HQ;rw[hd'] at hdd HQ;clear hn' hd' hs ht hgl;have HA0:Hid (Below w.heap.size w (w.alloc (.cells #[.bool false,.string ⟨#[]⟩,.string ⟨#[]⟩] 101))):=hid ((am _ _).alloc (aj _) _);have HR0:Hid ((w.alloc (.cells #[.bool false,.string ⟨#[]⟩,.string ⟨#[]⟩] 101)).heap[w.heap.size]? =some (.cells #[.bool false,.string ⟨#[]⟩,.string ⟨#[]⟩] 101 (0,0))):=hid (aq w _)
 go_enter func64,ntmps64
 go_wp2_with fail
 refine (hg _).mono ?_;rintro e w1 ⟨rfl,hb1⟩;have HB1:=hid (HA0.out.trans (hb1.mono (by simp)));have HR1:=hid ((hb1.block _ (ar HR0.out)).trans HR0.out);clear hb1 hg
 go_wp2_with fail
 refine (hn _).mono ?_;rintro e w2 ⟨rfl,hb2⟩;have HB2:=hid (HB1.out.trans (hb2.mono HB1.out.size));have HR2:=hid ((hb2.block _ (ar HR1.out)).trans HR1.out);clear hb2 hn
 go_wp2_with fail
 refine (hdd _).mono ?_;rintro e w3 ⟨rfl,hb3⟩;have HB3:=hid (HB2.out.trans (hb3.mono HB2.out.size));have HR3:=hid ((hb3.block _ (ar HR2.out)).trans HR2.out);obtain ⟨c0,c1,c2⟩:w3.cell? ⟨w.heap.size,0,none⟩=some (.bool false)∧w3.cell? ⟨w.heap.size,1,none⟩=some (.string ⟨#[]⟩)∧w3.cell? ⟨w.heap.size,2,none⟩=some (.string ⟨#[]⟩):=⟨aa HR3.out 0,aa HR3.out 1,aa HR3.out 2⟩
 have f0:=aK HR3.out 0;have f1:=aK HR3.out 1;have f2:=aK HR3.out 2;clear hb3 hdd;cases neg
 · go_wp2_with fail
   exact tJ results64 rfl rfl HR3.out HB3.out (aj _) (fun w3 h=>⟨by rw[HQ.out,Bool.false_and],h⟩)
 · by_cases h0:n'=0
   · subst h0;have h48:(aU 0==[48])=true:=by rw[ew];rfl
     go_wp2_with fail
     exact tJ results64 rfl rfl HR3.out HB3.out (aj _) (fun w3 h=>⟨by rw[HQ.out,Bool.true_and];rfl,h⟩)
   · have h48:(aU n'==[48])=false:=by rw[beq_eq_false_iff_ne,ne_eq,ef];exact h0
     go_wp2_with fail
     exact tJ results64 rfl rfl HR3.out HB3.out (aj _) (fun w3 h=>⟨by rw[HQ.out,Bool.true_and,aH h0],h⟩)
theorem gB (a b:ByteArray):(a++b).data.toList=a.data.toList++b.data.toList:=by rw[ByteArray.data_append,Array.toList_append]
theorem dC (q:Rat) (w:World) (h1:(aU q.num.natAbs).length≤1000000) (h2:(aU q.den).length≤1000000):Calls prog 66 #[iI q] w fun e w'=>e=.returned (.string ⟨(bB q).toArray⟩)∧Below w.heap.size w w':=by
 have HT:Hid (bB q=_):=hid (sY q);obtain ⟨a,ha⟩:∃a:ByteArray,(⟨(aU q.num.natAbs).toArray⟩:ByteArray)=a:=⟨_,rfl⟩
 obtain ⟨b,hb⟩:∃b:ByteArray,(⟨(aU q.den).toArray⟩:ByteArray)=b:=⟨_,rfl⟩
 have hal:a.size≤1000000:=by rw[←ha,sz_txt];exact h1
 have hbl:b.size≤1000000:=by rw[←hb,sz_txt];exact h2
 have HA:Hid (a.data.toList=aU q.num.natAbs):=hid (by rw[←ha]);have HB:Hid (b.data.toList=aU q.den):=hid (by rw[←hb]);have hbt:b.toList=aU q.den:=by rw[ByteArray.toList_eq,HB.out]
 unfold iI;rw[ha,hb];have HBE:Hid (Below w.heap.size w (w.alloc (.cells #[.bool (decide (q.num<0)),.string a,.string b] 101))):=hid ((am _ _).alloc (aj _) _);clear ha hb
 by_cases hn:q.num<0
 · rw[aH hn] at HBE ⊢;have hs1:((⟨#[45]⟩:ByteArray)++a).size≤1000001:=by rw[ByteArray.size_append];show 1+a.size≤_;omega
   by_cases hd:q.den=1
   · have h49:(b.toList==[49])=true:=by rw[hbt,hd,gx];rfl
     have HE:Hid ((⟨#[45]⟩:ByteArray)++a=⟨(bB q).toArray⟩):=hid (d6 _ _ (by rw[gB,HA.out,HT.out,aF hn,aF hd,List.append_nil]));clear hbt hd hn
     go_enter func66,ntmps66
     go_wp2
     go_ret
     exact ⟨bK HE.out,HBE.out⟩
   · have h49:(b.toList==[49])=false:=by rw[beq_eq_false_iff_ne,hbt,ne_eq,fN];exact hd
     have HE:Hid ((⟨#[45]⟩:ByteArray)++a++((⟨#[47]⟩:ByteArray)++b)=⟨(bB q).toArray⟩):=hid (d6 _ _ (by rw[gB,gB,gB,HA.out,HB.out,HT.out,aF hn,aB hd];simp));clear hbt hd hn
     go_enter func66,ntmps66
     go_wp2
     go_ret
     exact ⟨bK HE.out,HBE.out⟩
 · rw[aD hn] at HBE ⊢
   by_cases hd:q.den=1
   · have h49:(b.toList==[49])=true:=by rw[hbt,hd,gx];rfl
     have HE:Hid (a=⟨(bB q).toArray⟩):=hid (d6 _ _ (by rw[HA.out,HT.out,aB hn,aF hd,List.append_nil,List.nil_append]));clear hbt hd hn
     go_enter func66,ntmps66
     go_wp2
     go_ret
     exact ⟨bK HE.out,HBE.out⟩
   · have h49:(b.toList==[49])=false:=by rw[beq_eq_false_iff_ne,hbt,ne_eq,fN];exact hd
     have HE:Hid (a++((⟨#[47]⟩:ByteArray)++b)=⟨(bB q).toArray⟩):=hid (d6 _ _ (by rw[gB,gB,HA.out,HB.out,HT.out,aB hn,aB hd];simp));clear hbt hd hn
     go_enter func66,ntmps66
     go_wp2
     go_ret
     exact ⟨bK HE.out,HBE.out⟩
structure PX (w wx:World) (neg:Bool) (num den:ByteArray):Prop where
 r:wx.heap[w.heap.size]? =some (.cells #[.bool false,.string ⟨#[]⟩,.string ⟨#[]⟩] 101 (0,0))
 x:wx.heap[w.heap.size+1]? =some (.cells #[.bool neg,.string num,.string den] 101 (0,0))
 bel:Below w.heap.size w wx
theorem PX.far {w wx w1:World} {neg:Bool} {num den:ByteArray} (h:PX w wx neg num den) (hb:Below wx.heap.size wx w1):PX w w1 neg num den:=
 ⟨(hb.block _ (ar h.r)).trans h.r,(hb.block _ (ar h.x)).trans h.x,h.bel.trans (hb.mono h.bel.size)⟩
theorem PX.new (w:World) (neg:Bool) (den:ByteArray) (o:Obj) (ho:o=.cells #[.bool false,.string ⟨#[]⟩,.string ⟨#[]⟩] 101):
    PX w ((w.alloc o).alloc (.cells #[.bool neg,.string ⟨#[]⟩,.string den] 101)) neg ⟨#[]⟩ den:=by
 subst ho;refine ⟨?_,?_,?_⟩
 · rw[Below.heap_alloc _ _ _ (by simp)];exact aq w _
 · have:=aq (w.alloc (.cells #[.bool false,.string ⟨#[]⟩,.string ⟨#[]⟩] 101)) (.cells #[.bool neg,.string ⟨#[]⟩,.string den] 101)
   simpa using this
 · exact ((am w.heap.size w).alloc (aj _) _).alloc (by simp) _
theorem PX.set {w wx:World} {neg:Bool} {num den:ByteArray} (h:PX w wx neg num den) (i:Nat) (v:Value) {neg':Bool} {num' den':ByteArray} (hv:(#[Value.bool neg,.string num,.string den]:Array Value).setIfInBounds i v=#[.bool neg',.string num',.string den']):
    PX w (wx.setCell ⟨w.heap.size+1,i,none⟩ v) neg' num' den':=by
 refine ⟨?_,?_,?_⟩
 · rw[aG _ _ _ _ (by simp)];exact h.r
 · rw[←hv];exact heap_set h.x i v
 · exact h.bel.setCell (show w.heap.size≤(⟨w.heap.size+1,i,none⟩:Addr).block from Nat.le_succ _) _
theorem PX.cells {w wx:World} {neg:Bool} {num den:ByteArray} (h:PX w wx neg num den):wx.cell? ⟨w.heap.size+1,0,none⟩=some (.bool neg)∧wx.cell? ⟨w.heap.size+1,1,none⟩=some (.string num)∧wx.cell? ⟨w.heap.size+1,2,none⟩=some (.string den):=
 ⟨aa h.x 0,aa h.x 1,aa h.x 2⟩
theorem PX.fz {w wx:World} {neg:Bool} {num den:ByteArray} (h:PX w wx neg num den) (i:Nat):wx.frozen? ⟨w.heap.size+1,i,none⟩=false:=aK h.x i
theorem PX.drew {w wx:World} {neg:Bool} {num den:ByteArray} (h:PX w wx neg num den):PX w wx.drew neg num den:=⟨h.r,h.x,h.bel.drew⟩
theorem PX.drewN {w wx:World} {neg:Bool} {num den:ByteArray} (h:PX w wx neg num den) (n:Nat):PX w (wx.drewN n) neg num den:=⟨h.r,h.x,aW h.bel n⟩
def NoSl (l:List UInt8) (k:Nat):Prop:=∀x∈l.take k,(x !=47)=true
theorem NoSl.zero (l:List UInt8):NoSl l 0:=by unfold NoSl;simp
theorem NoSl.step {s:ByteArray} {k:Nat} (h:NoSl s.data.toList k) (hk:k<s.size) (hc:s[k]≠47):NoSl s.data.toList (k+1):=fun x hx=>by
 rw[List.take_add_one,byte_at s k hk] at hx;simp only[Option.toList,List.mem_append,List.mem_singleton] at hx;rcases hx with hx | hx
 · exact h x hx
 · subst hx;simpa using hc
theorem NoSl.all {s:ByteArray} (h:NoSl s.data.toList s.size):dB s.data.toList=s.data.toList∧jk s.data.toList=[49]:=by
 have h1:∀x∈s.data.toList,(x !=47)=true:=by
  have h2:=h;unfold NoSl at h2;rwa [aT (by rw[size_data];exact aj _)] at h2
 exact ⟨uz h1,by unfold jk;rw[iw h1];rfl⟩
theorem NoSl.at_ {s:ByteArray} {k:Nat} (h:NoSl s.data.toList k) (hk:k<s.size) (hc:s[k]=47):dB s.data.toList=(s.extract 0 k).data.toList∧jk s.data.toList=(s.extract (k+1) s.size).data.toList:=by
 have e:s.data.toList=s.data.toList.take k++47::s.data.toList.drop (k+1):=by
  conv=>lhs;rw[←List.take_append_drop k s.data.toList]
  rw[List.drop_eq_getElem_cons (by rw[size_data];exact hk)]
  congr 2
 obtain ⟨h1,h2,h3⟩:=sR (b:=s.data.toList.drop (k+1)) h;rw[←e] at h1 h2 h3;rw[ex_data,ex_data];refine ⟨by rw[h1];simp,?_⟩;unfold jk;rw[aF h3,h2,aT (by rw[List.length_drop,size_data];omega)]
theorem yj (s:ByteArray) (h0:0<s.size) (h:s[0]=45):(s.extract 1 s.size).data.toList=ci s.data.toList∧sgB s.data.toList=true:=by
 have hh:s.data.toList.head? =some 45:=by rw[List.head?_eq_getElem?,byte_at s 0 h0,h]
 have hs:sgB s.data.toList=true:=by unfold sgB;rw[hh];rfl
 refine ⟨?_,hs⟩;unfold ci;rw[aF hs,ex_data,aT (by rw[List.length_drop,size_data];omega),List.drop_one]
theorem yk (s:ByteArray) (h0:0<s.size) (h:s[0]≠45):s.data.toList=ci s.data.toList∧sgB s.data.toList=false:=by
 have hh:s.data.toList.head? =some s[0]:=by rw[List.head?_eq_getElem?,byte_at s 0 h0]
 have hs:sgB s.data.toList=false:=by unfold sgB;rw[hh];simpa using h
 refine ⟨?_,hs⟩;unfold ci;rw[hs];rfl
def Bq:Option Rat→Value
 | some q=>iI q
 | none=>.agg #[.bool false,.string ⟨#[]⟩,.string ⟨#[]⟩]
def mP (a:List UInt8) (w:World) (e:Ending) (w':World):Prop:=e=.returned (.tuple #[Bq (bp a),.bool (bp a).isSome])∧Below w.heap.size w w'
theorem fS {fn:Func} {t t1:Tmp} {bb:Bool} {a:Act} {w w2:World} {neg:Bool} {num den:ByteArray} {v0 v1 v2:Value} {Q:Ending→World→Prop} (hres:fn.results=#[.cell t 101,.tmp t1]) (hd:a.defers=[]) (ht:a.tmps.getD t undef=.pointer (some ⟨w.heap.size,0,none⟩)) (ht1:a.tmps.getD t1 undef=.bool bb)
    (hp:PX w w2 neg num den) (hQ:∀w3,Below w.heap.size w w3→Q (.returned (.tuple #[.agg #[v0,v1,v2],.bool bb])) w3):
    bodyPost prog fn Q .ret a (((w2.setCell ⟨w.heap.size,0,none⟩ v0).setCell ⟨w.heap.size,1,none⟩ v1).setCell ⟨w.heap.size,2,none⟩ v2):=by
 have h3:=Am (x:=v0) (y:=v1) (z:=v2) hp.r;have hbl:=((hp.bel.setCell (show w.heap.size≤(⟨w.heap.size,0,none⟩:Addr).block from aj _) v0).setCell (show w.heap.size≤(⟨w.heap.size,1,none⟩:Addr).block from aj _) v1).setCell (show w.heap.size≤(⟨w.heap.size,2,none⟩:Addr).block from aj _) v2;generalize ((w2.setCell ⟨w.heap.size,0,none⟩ v0).setCell ⟨w.heap.size,1,none⟩ v1).setCell ⟨w.heap.size,2,none⟩ v2=w3 at *;have k0:=aa h3 0;have k1:=aa h3 1;have k2:=aa h3 2
 simp at k0 k1 k2
 refine bodyPost_ret (v:=.tuple #[.agg #[v0,v1,v2],.bool bb]) ?_ hd (hQ _ hbl);have h1:a.tmps[t]?.getD undef=.pointer (some ⟨w.heap.size,0,none⟩):=by simpa using ht
 have h2:a.tmps[t1]?.getD undef=.bool bb:=by simpa using ht1
 simp[results,hres,go_sem,h1,h2,k0,k1,k2]
theorem PX.rcells {w wx:World} {neg:Bool} {num den:ByteArray} (h:PX w wx neg num den):(wx.cell? ⟨w.heap.size,0,none⟩=some (.bool false)∧wx.cell? ⟨w.heap.size,1,none⟩=some (.string ⟨#[]⟩)∧wx.cell? ⟨w.heap.size,2,none⟩=some (.string ⟨#[]⟩))∧(∀i,wx.frozen? ⟨w.heap.size,i,none⟩=false):=
 ⟨⟨aa h.r 0,aa h.r 1,aa h.r 2⟩,fun i=>aK h.r i⟩
theorem gU {l:List UInt8} {n:Nat} (h:l=aU n):ke l=true∧cn l=l:=by
 subst h;exact ⟨by unfold ke;rw[bg,aH (eC n)];rfl,mm _ (sO n)⟩
theorem rm {l:List UInt8} (h1:ke l=true) (h2:cn l=l):l=aU (dv l):=by
 unfold ke at h1;rw[Bool.and_eq_true,decide_eq_true_eq] at h1;rw[←dU l h1.1 h1.2,h2]
theorem pG (s:ByteArray) (w:World) (hs:s.size≤90000) (h0:0<s.size):Calls prog 63 #[.string s] w (mP s.data.toList w):=by
 have HP0:=hid (PX.new w false ⟨#[49]⟩ _ rfl);have hne:s.toList.isEmpty=false:=by rw[isE];exact aD (by omega)
 have h0i:(0:Int)<(s.size:Int):=by omega
 have HH:=hid (rk s h0)
 go_enter func63,ntmps63
 go_upto_if 15 with fail
 go_cut [5] (fun s5 wx=>∃b:ByteArray,s5=.string b∧b.data.toList=ci s.data.toList∧b.size≤90000∧PX w wx (sgB s.data.toList) ⟨#[]⟩ ⟨#[49]⟩)
 case first=>
  by_cases h45:s[0]=45
  · have h45b:((s[0].toNat:Int)==45)=true:=by rw[h45];rfl
    have HB:Hid ((s.extract 1 s.size).data.toList=ci s.data.toList∧sgB s.data.toList=true):=hid (yj s h0 h45);have hsz:(s.extract 1 s.size).size≤90000:=by rw[ByteArray.size_extract];omega
    obtain ⟨c0,c1,c2⟩:=HP0.out.cells;have f0:=HP0.out.fz 0;clear h45 hne HH
    go_wp2
    go_region
    all_goals go_wp2
    all_goals go_meet
    all_goals exact ⟨_,rfl,HB.out.1,hsz,by rw[HB.out.2];exact (PX.new w true ⟨#[49]⟩ _ rfl).drew⟩
  · have h45b:((s[0].toNat:Int)==45)=false:=by
      simp only[beq_eq_false_iff_ne,ne_eq];intro e;exact h45 (UInt8.toNat_inj.1 (by have:(45:UInt8).toNat=45:=rfl;omega))
    have HB:Hid (s.data.toList=ci s.data.toList∧sgB s.data.toList=false):=hid (yk s h0 h45);clear h45 hne HH
    go_wp2
    go_meet
    exact ⟨s,rfl,HB.out.1,hs,by rw[HB.out.2];exact HP0.out⟩
 case rest=>
  obtain ⟨b,rfl,hb,hbs,hpx⟩:=hcut;have HP:=hid hpx;have HB:=hid hb;have hbl:b.data.toList.length=b.size:=size_data b;have HBL:=hid hbl;clear hpx hb hbl HP0 HH h0 h0i hne
  go_upto_block 0 with fail
  go_cut [5] (fun s5 wx=>∃n d:ByteArray,s5=.string n∧n.data.toList=dB (ci s.data.toList)∧d.data.toList=jk (ci s.data.toList)∧n.size≤90000∧d.size≤90000∧PX w wx (sgB s.data.toList) ⟨#[]⟩ d)
  case first=>
   go_wp2_with fail
   go_loopg [5,6] b.size (fun g s5 i wr=>∃k:Nat,k≤b.size∧g=b.size-k∧s5=.string b∧i=.int .i64 k∧NoSl b.data.toList k∧PX w wr (sgB s.data.toList) ⟨#[]⟩ ⟨#[49]⟩)
   case atStart=>exact ⟨0,aM _,by omega,rfl,rfl,NoSl.zero _,HP.out⟩
   case round=>
    clear HP;obtain ⟨k,hk,rfl,rfl,rfl,hno,hpx⟩:=hrel;have HN:=hid hno;have HP:=hid hpx;clear hno hpx
    by_cases hlt:k<b.size
    · by_cases h47:b[k]=47
      · have h47b:((b[k].toNat:Int)==47)=true:=by rw[h47];rfl
        have HS:=hid (HN.out.at_ hlt h47);have hz1:(b.extract 0 k).size≤90000:=by rw[ByteArray.size_extract];omega
        have hz2:(b.extract (k+1) b.size).size≤90000:=by rw[ByteArray.size_extract];omega
        obtain ⟨c0,c1,c2⟩:=HP.out.cells;have f2:=HP.out.fz 2;clear h47
        go_wp2
        go_region
        all_goals go_wp2
        all_goals go_meet
        all_goals exact ⟨_,_,rfl,by rw[←HB.out,HS.out.1],by rw[←HB.out,HS.out.2],hz1,hz2,(HP.out.set 2 (.string (b.extract (k+1) b.size)) rfl).drew⟩
      · have h47b:((b[k].toNat:Int)==47)=false:=by
          simp only[beq_eq_false_iff_ne,ne_eq];intro e;exact h47 (UInt8.toNat_inj.1 (by have:(47:UInt8).toNat=47:=rfl;omega))
        have HS:=hid (HN.out.step hlt h47);clear h47
        go_wp2
        go_roundg (b.size-(k+1))
        case rel=>exact ⟨k+1,by omega,rfl,rfl,by go_num,HS.out,HP.out⟩
        case measure=>omega
    · obtain rfl:k=b.size:=by omega
      have HS:=hid HN.out.all
      go_wp2
      go_meet
      exact ⟨b,⟨#[49]⟩,rfl,by rw[←HB.out,HS.out.1],by rw[←HB.out,HS.out.2],hbs,by decide,HP.out⟩
  case rest=>
   obtain ⟨n,d,rfl,hn,hd,hns,hds,hpx⟩:=hcut;have HN:=hid hn;have HD:=hid hd;have f1:=hpx.fz 1;have hx1:=hpx.cells.2.1;have HPX:=hid (hpx.set 1 (.string n) rfl);clear hn hd hpx HP HBL;have HB0:=HB;clear HB
   go_wp2_with fail
   clear f1 hx1;generalize wc.setCell ⟨w.heap.size+1,1,none⟩ (.string n)=w0 at *;cases hq:bp s.data.toList with
   | some q=>
     have HQ0:=hid hq;clear hq;have hq:=HQ0.out;have HQ:=hid hq;obtain ⟨p1,p2,p3⟩:=sX hq;have HNN:Hid (n.data.toList=aU q.num.natAbs):=hid (by rw[HN.out,p2]);have HDD:Hid (d.data.toList=aU q.den):=hid (by rw[HD.out,p3]);have HSG:Hid (sgB s.data.toList=decide (q.num<0)):=hid p1;have HSF:Hid (en (sgB s.data.toList) q.num.natAbs q.den=q):=hid (by rw[p1,vF]);clear p1 p2 p3 hq;obtain ⟨e1,e2⟩:=gU HNN.out;obtain ⟨e3,e4⟩:=gU HDD.out;have hdn:=fun W=>bA n W (by omega)
     have hdd:=fun W=>bA d W (by omega)
     have htn:=fun W=>bH n W (by omega)
     have htd:=fun W=>bH d W (by omega)
     rw[e1] at hdn;rw[e3] at hdd;rw[e2,←d6 n _ rfl] at htn;rw[e4,←d6 d _ rfl] at htd;have hrd:=fun W=>du (sgB s.data.toList) n d _ _ W HNN.out HDD.out (by omega) (by omega) q.den_pos
     rw[HSF.out] at hrd;have htx:=fun W=>dC q W (by rw[←HNN.out,size_data];omega) (by rw[←HDD.out,size_data];omega)
     rw[fc HQ.out,←d6 s _ rfl] at htx
     have h48:(d.toList==[48])=false:=by
      rw[ByteArray.toList_eq,HDD.out,beq_eq_false_iff_ne,ne_eq,ef];exact q.den_nz
     have K0:w0.cell? ⟨w.heap.size+1,0,none⟩=some (.bool (sgB s.data.toList))∧w0.cell? ⟨w.heap.size+1,1,none⟩=some (.string n)∧w0.cell? ⟨w.heap.size+1,2,none⟩=some (.string d):=HPX.out.cells;clear e1 e2 e3 e4;unfold iI at hrd htx
     go_region_held3 (fun w'=>w'.cell? ⟨w.heap.size+1,0,none⟩=some (.bool (sgB s.data.toList))∧w'.cell? ⟨w.heap.size+1,1,none⟩=some (.string n)∧w'.cell? ⟨w.heap.size+1,2,none⟩=some (.string d))
      (first | exact K0 | exact K1 | exact K2 | go_keep)
      (first
        | (go_at_call 99
           first
            | (with_reducible refine (hdn _).mono ?_;rintro e w' ⟨rfl,rfl⟩)
            | (with_reducible refine (hdd _).mono ?_;rintro e w' ⟨rfl,rfl⟩))
        | (go_at_call 100
           first
            | (with_reducible refine (htn _).mono ?_;rintro e w' ⟨rfl,rfl⟩)
            | (with_reducible refine (htd _).mono ?_;rintro e w' ⟨rfl,rfl⟩))
        | (go_at_call 64
           refine (hrd _).mono ?_;rintro e w1 ⟨rfl,hb1⟩;have HPX1:=hid ((HPX.out.drewN _).far hb1)
           have K1:=HPX1.out.cells)
        | (go_at_call 66
           refine (htx _).mono ?_;rintro e w2 ⟨rfl,hb2⟩;have HPX2:=hid (HPX1.out.far hb2)
           have K2:=HPX2.out.cells))
     have HE:Hid (Bq (bp s.data.toList)=.agg #[.bool (sgB s.data.toList),.string n,.string d]∧(bp s.data.toList).isSome=true):=hid (by
      rw[HQ.out];refine ⟨?_,rfl⟩;show iI q=_;unfold iI
      rw[HSG.out,←HNN.out,←HDD.out])
     clear K0 K1 hdn hdd htn htd hrd htx;obtain ⟨x0,x1,x2⟩:=K2;obtain ⟨⟨r0,r1,r2⟩,fr⟩:=HPX2.out.rcells
     go_wp2
     exact fS results63 rfl rfl rfl HPX2.out (fun w3 h=>⟨by rw[HE.out.1,HE.out.2],h⟩)
   | none=>
     have HQ0:=hid hq;clear hq
     by_cases c1:ke (dB (ci s.data.toList))=true
     rotate_left
     · have c1:ke (dB (ci s.data.toList))=false:=by simpa using c1
       have HC1:=hid c1;clear c1;have hdn:=fun W=>bA n W (by omega)
       have hdd:=fun W=>bA d W (by omega)
       have htn:=fun W=>bH n W (by omega)
       have htd:=fun W=>bH d W (by omega)
       rw[HN.out] at hdn htn;rw[HD.out] at hdd htd;obtain ⟨k0,k1,k2⟩:=HPX.out.cells;rw[HC1.out] at hdn
       go_quiet ((first
        | (go_at_call 99;first
            | (with_reducible exact Calls.quiet_of_same (hdn _))
            | (with_reducible exact Calls.quiet_of_same (hdd _)))
        | (go_at_call 100;first
            | (with_reducible exact Calls.quiet_of_same (htn _))
            | (with_reducible exact Calls.quiet_of_same (htd _)))))
       obtain ⟨⟨r0,r1,r2⟩,fr⟩:=HPX.out.rcells
       go_wp2
       exact fS results63 rfl rfl rfl (HPX.out.drewN _) (fun w3 h=>⟨by rw[HQ0.out];rfl,h⟩)
     by_cases c2:ke (jk (ci s.data.toList))=true
     rotate_left
     · have c2:ke (jk (ci s.data.toList))=false:=by simpa using c2
       have HC1:=hid c1;have HC2:=hid c2;clear c1 c2;have hdn:=fun W=>bA n W (by omega)
       have hdd:=fun W=>bA d W (by omega)
       have htn:=fun W=>bH n W (by omega)
       have htd:=fun W=>bH d W (by omega)
       rw[HN.out] at hdn htn;rw[HD.out] at hdd htd;obtain ⟨k0,k1,k2⟩:=HPX.out.cells;rw[HC1.out] at hdn;rw[HC2.out] at hdd
       go_quiet ((first
        | (go_at_call 99;first
            | (with_reducible exact Calls.quiet_of_same (hdn _))
            | (with_reducible exact Calls.quiet_of_same (hdd _)))
        | (go_at_call 100;first
            | (with_reducible exact Calls.quiet_of_same (htn _))
            | (with_reducible exact Calls.quiet_of_same (htd _)))))
       obtain ⟨⟨r0,r1,r2⟩,fr⟩:=HPX.out.rcells
       go_wp2
       exact fS results63 rfl rfl rfl (HPX.out.drewN _) (fun w3 h=>⟨by rw[HQ0.out];rfl,h⟩)
     by_cases c3:jk (ci s.data.toList)=[48]
     · have HC1:=hid c1;have HC2:=hid c2;have HC3:=hid c3;clear c1 c2 c3;have hdn:=fun W=>bA n W (by omega)
       have hdd:=fun W=>bA d W (by omega)
       have htn:=fun W=>bH n W (by omega)
       have htd:=fun W=>bH d W (by omega)
       rw[HN.out] at hdn htn;rw[HD.out] at hdd htd;obtain ⟨k0,k1,k2⟩:=HPX.out.cells;rw[HC1.out] at hdn;rw[HC2.out] at hdd;have h48:(d.toList==[48])=true:=by rw[ByteArray.toList_eq,HD.out,HC3.out];rfl
       go_quiet ((first
        | (go_at_call 99;first
            | (with_reducible exact Calls.quiet_of_same (hdn _))
            | (with_reducible exact Calls.quiet_of_same (hdd _)))
        | (go_at_call 100;first
            | (with_reducible exact Calls.quiet_of_same (htn _))
            | (with_reducible exact Calls.quiet_of_same (htd _)))))
       obtain ⟨⟨r0,r1,r2⟩,fr⟩:=HPX.out.rcells
       go_wp2
       exact fS results63 rfl rfl rfl (HPX.out.drewN _) (fun w3 h=>⟨by rw[HQ0.out];rfl,h⟩)
     by_cases c4:cn (dB (ci s.data.toList))=dB (ci s.data.toList)
     rotate_left
     · have HC1:=hid c1;have HC2:=hid c2;have HC3:=hid c3;have HC4:=hid c4;clear c1 c2 c3 c4;have hdn:=fun W=>bA n W (by omega)
       have hdd:=fun W=>bA d W (by omega)
       have htn:=fun W=>bH n W (by omega)
       have htd:=fun W=>bH d W (by omega)
       rw[HN.out] at hdn htn;rw[HD.out] at hdd htd;obtain ⟨k0,k1,k2⟩:=HPX.out.cells;rw[HC1.out] at hdn;rw[HC2.out] at hdd;have h48:(d.toList==[48])=false:=by rw[ByteArray.toList_eq,HD.out,beq_eq_false_iff_ne];exact HC3.out
       obtain ⟨tn,hte⟩:∃tn:ByteArray,(⟨(cn (dB (ci s.data.toList))).toArray⟩:ByteArray)=tn:=⟨_,rfl⟩
       rw[hte] at htn
       have htb:(tn.toList==n.toList)=false:=by
        rw[beq_eq_false_iff_ne,ByteArray.toList_eq,ByteArray.toList_eq,←hte,HN.out];exact HC4.out
       clear hte
       go_quiet ((first
        | (go_at_call 99;first
            | (with_reducible exact Calls.quiet_of_same (hdn _))
            | (with_reducible exact Calls.quiet_of_same (hdd _)))
        | (go_at_call 100;first
            | (with_reducible exact Calls.quiet_of_same (htn _))
            | (with_reducible exact Calls.quiet_of_same (htd _)))))
       obtain ⟨⟨r0,r1,r2⟩,fr⟩:=HPX.out.rcells
       go_wp2
       exact fS results63 rfl rfl rfl (HPX.out.drewN _) (fun w3 h=>⟨by rw[HQ0.out];rfl,h⟩)
     by_cases c5:cn (jk (ci s.data.toList))=jk (ci s.data.toList)
     rotate_left
     · have HC1:=hid c1;have HC2:=hid c2;have HC3:=hid c3;have HC4:=hid c4;have HC5:=hid c5;clear c1 c2 c3 c4 c5;have hdn:=fun W=>bA n W (by omega)
       have hdd:=fun W=>bA d W (by omega)
       have htn:=fun W=>bH n W (by omega)
       have htd:=fun W=>bH d W (by omega)
       rw[HN.out] at hdn htn;rw[HD.out] at hdd htd;obtain ⟨k0,k1,k2⟩:=HPX.out.cells;rw[HC1.out] at hdn;rw[HC2.out] at hdd;have h48:(d.toList==[48])=false:=by rw[ByteArray.toList_eq,HD.out,beq_eq_false_iff_ne];exact HC3.out
       rw[HC4.out,←d6 n _ HN.out] at htn;obtain ⟨td,hue⟩:∃td:ByteArray,(⟨(cn (jk (ci s.data.toList))).toArray⟩:ByteArray)=td:=⟨_,rfl⟩
       rw[hue] at htd
       have hub:(td.toList==d.toList)=false:=by
        rw[beq_eq_false_iff_ne,ByteArray.toList_eq,ByteArray.toList_eq,←hue,HD.out];exact HC5.out
       clear hue
       go_quiet ((first
        | (go_at_call 99;first
            | (with_reducible exact Calls.quiet_of_same (hdn _))
            | (with_reducible exact Calls.quiet_of_same (hdd _)))
        | (go_at_call 100;first
            | (with_reducible exact Calls.quiet_of_same (htn _))
            | (with_reducible exact Calls.quiet_of_same (htd _)))))
       obtain ⟨⟨r0,r1,r2⟩,fr⟩:=HPX.out.rcells
       go_wp2
       exact fS results63 rfl rfl rfl (HPX.out.drewN _) (fun w3 h=>⟨by rw[HQ0.out];rfl,h⟩)
     have HC1:=hid c1;have HC2:=hid c2;have HC3:=hid c3;have HC4:=hid c4;have HC5:=hid c5;clear c1 c2 c3 c4 c5;obtain ⟨x,hx⟩:∃x,dv (dB (ci s.data.toList))=x:=⟨_,rfl⟩
     obtain ⟨z,hz⟩:∃z,dv (jk (ci s.data.toList))=z:=⟨_,rfl⟩
     have HNN:Hid (n.data.toList=aU x):=hid (by rw[HN.out,←hx];exact rm HC1.out HC4.out);have HDD:Hid (d.data.toList=aU z):=hid (by rw[HD.out,←hz];exact rm HC2.out HC5.out);clear hx hz;have hz0:z≠0:=fun e=>HC3.out (by rw[←HD.out,HDD.out,e,ew])
     obtain ⟨e1,e2⟩:=gU HNN.out;obtain ⟨e3,e4⟩:=gU HDD.out;have hdn:=fun W=>bA n W (by omega)
     have hdd:=fun W=>bA d W (by omega)
     have htn:=fun W=>bH n W (by omega)
     have htd:=fun W=>bH d W (by omega)
     rw[e1] at hdn;rw[e3] at hdd;rw[e2,←d6 n _ rfl] at htn;rw[e4,←d6 d _ rfl] at htd;have hrd:=fun W=>du (sgB s.data.toList) n d _ _ W HNN.out HDD.out (by omega) (by omega) (by omega)
     obtain ⟨l1,l2⟩:=gP (sgB s.data.toList) x z (by omega);obtain ⟨q,hqq⟩:∃q,en (sgB s.data.toList) x z=q:=⟨_,rfl⟩
     rw[hqq] at hrd l1 l2;clear hqq;have htx:=fun W=>dC q W (bN (by rw[←HNN.out,size_data];omega) l1) (bN (by rw[←HDD.out,size_data];omega) l2)
     clear l1 l2;obtain ⟨tx,hte⟩:∃tx:ByteArray,(⟨(bB q).toArray⟩:ByteArray)=tx:=⟨_,rfl⟩
     rw[hte] at htx
     have htb:(tx.toList==s.toList)=false:=by
      rw[beq_eq_false_iff_ne,ByteArray.toList_eq,ByteArray.toList_eq,←hte];exact sW HQ0.out q
     clear hte
     have h48:(d.toList==[48])=false:=by
      rw[ByteArray.toList_eq,HDD.out,beq_eq_false_iff_ne,ne_eq,ef];exact hz0
     have K0:w0.cell? ⟨w.heap.size+1,0,none⟩=some (.bool (sgB s.data.toList))∧w0.cell? ⟨w.heap.size+1,1,none⟩=some (.string n)∧w0.cell? ⟨w.heap.size+1,2,none⟩=some (.string d):=HPX.out.cells;clear e1 e2 e3 e4;unfold iI at hrd htx
     go_region_held3 (fun w'=>w'.cell? ⟨w.heap.size+1,0,none⟩=some (.bool (sgB s.data.toList))∧w'.cell? ⟨w.heap.size+1,1,none⟩=some (.string n)∧w'.cell? ⟨w.heap.size+1,2,none⟩=some (.string d))
      (first | exact K0 | exact K1 | exact K2 | go_keep)
      (first
        | (go_at_call 99
           first
            | (with_reducible refine (hdn _).mono ?_;rintro e w' ⟨rfl,rfl⟩)
            | (with_reducible refine (hdd _).mono ?_;rintro e w' ⟨rfl,rfl⟩))
        | (go_at_call 100
           first
            | (with_reducible refine (htn _).mono ?_;rintro e w' ⟨rfl,rfl⟩)
            | (with_reducible refine (htd _).mono ?_;rintro e w' ⟨rfl,rfl⟩))
        | (go_at_call 64
           refine (hrd _).mono ?_;rintro e w1 ⟨rfl,hb1⟩;have HPX1:=hid ((HPX.out.drewN _).far hb1)
           have K1:=HPX1.out.cells)
        | (go_at_call 66
           refine (htx _).mono ?_;rintro e w2 ⟨rfl,hb2⟩;have HPX2:=hid (HPX1.out.far hb2)
           have K2:=HPX2.out.cells))
     clear K0 K1 K2 hdn hdd htn htd hrd htx;obtain ⟨⟨r0,r1,r2⟩,fr⟩:=HPX2.out.rcells
     go_wp2
     exact fS results63 rfl rfl rfl HPX2.out (fun w3 h=>⟨by rw[HQ0.out];rfl,h⟩)
theorem mQ (s:ByteArray) (w:World) (h0:s.size=0):Calls prog 63 #[.string s] w (mP s.data.toList w):=by
 obtain rfl:s=⟨#[]⟩:=ByteArray.size_eq_zero_iff.1 h0;have HP0:=hid (PX.new w false ⟨#[49]⟩ _ rfl);have HQ:Hid (bp (⟨#[]⟩:ByteArray).data.toList=none):=hid qK;have hdn:=fun W=>bA ⟨#[]⟩ W (by decide)
 have e1:ke (⟨#[]⟩:ByteArray).data.toList=false:=rfl;rw[e1] at hdn;clear h0 e1
 go_enter func63,ntmps63
 go_wp2
 go_loopg [5,6] 0 (fun g s5 i wr=>s5=.string ⟨#[]⟩∧i=.int .i64 0∧PX w wr false ⟨#[]⟩ ⟨#[49]⟩)
 case atStart=>exact ⟨rfl,rfl,HP0.out⟩
 case round=>
  obtain ⟨rfl,rfl,hrel⟩:=hrel;have HP:=hid hrel;obtain ⟨c0,c1,c2⟩:=hrel.cells;obtain ⟨⟨r0,r1,r2⟩,fr⟩:=hrel.rcells;have f1:=hrel.fz 1;clear hrel HP0
  go_wp2_with fail
  have HP1:=hid (HP.out.set 1 (.string ⟨#[]⟩) rfl);clear c0 c1 c2 r0 r1 r2 fr f1 HP;generalize wr.setCell ⟨w.heap.size+1,1,none⟩ (.string ⟨#[]⟩)=w0 at *;obtain ⟨k0,k1,k2⟩:=HP1.out.cells;obtain ⟨⟨r0,r1,r2⟩,fr⟩:=HP1.out.rcells
  go_quiet ((go_at_call 99;exact Calls.quiet_of_same (hdn _)))
  go_wp2
  exact fS results63 rfl rfl rfl (HP1.out.drewN _) (fun w3 h=>⟨by rw[HQ.out];rfl,h⟩)
theorem kf (s:ByteArray) (w:World) (hs:s.size≤90000):Calls prog 63 #[.string s] w (mP s.data.toList w):=by
 rcases Nat.eq_zero_or_pos s.size with h0 | h0
 · exact mQ s w h0
 · exact pG s w hs h0
def PS (q:Rat) (neg:Bool) (nb db:ByteArray):Prop:=neg=decide (q.num<0)∧nb.data.toList=aU q.num.natAbs∧db.data.toList=aU q.den
theorem PS.val {q:Rat} {neg:Bool} {nb db:ByteArray} (h:PS q neg nb db):iI q=.agg #[.bool neg,.string nb,.string db]:=by
 obtain ⟨h1,h2,h3⟩:=h;unfold iI;rw[h1,d6 nb _ h2,d6 db _ h3]
theorem PS.of (q:Rat):PS q (decide (q.num<0)) ⟨(aU q.num.natAbs).toArray⟩ ⟨(aU q.den).toArray⟩:=⟨rfl,rfl,rfl⟩
theorem PS.neg1 {q:Rat} {nb db:ByteArray} (h:PS q true nb db):PS (-q) false nb db:=by
 obtain ⟨h1,h2,h3⟩:=h;have h4:q.num<0:=by simpa using h1.symm
 exact ⟨(aD (show ¬-q.num<0 by omega)).symm,by show _=aU (-q.num).natAbs;rw[Int.natAbs_neg];exact h2,h3⟩
theorem PS.neg0 {q:Rat} {nb db:ByteArray} (h:PS q false nb db) (h0:q.num=0):PS (-q) false nb db:=by
 obtain ⟨h1,h2,h3⟩:=h;exact ⟨(aD (show ¬-q.num<0 by omega)).symm,by show _=aU (-q.num).natAbs;rw[Int.natAbs_neg];exact h2,h3⟩
theorem PS.neg2 {q:Rat} {nb db:ByteArray} (h:PS q false nb db) (h0:q.num≠0):PS (-q) true nb db:=by
 obtain ⟨h1,h2,h3⟩:=h;have h4:¬q.num<0:=by simpa using h1.symm
 exact ⟨(aH (show -q.num<0 by omega)).symm,by show _=aU (-q.num).natAbs;rw[Int.natAbs_neg];exact h2,h3⟩
theorem PS.zero {q:Rat} {neg:Bool} {nb db:ByteArray} (h:PS q neg nb db):(nb.toList==[48])=decide (q.num=0):=by
 rw[ByteArray.toList_eq,h.2.1,Bool.eq_iff_iff,beq_iff_eq,ef,decide_eq_true_eq];omega
theorem PS.one {q:Rat} {neg:Bool} {nb db:ByteArray} (h:PS q neg nb db):(db.toList==[49])=decide (q.den=1):=by
 rw[ByteArray.toList_eq,h.2.2,Bool.eq_iff_iff,beq_iff_eq,fN,decide_eq_true_eq]
theorem pH {q:Rat} {neg:Bool} {nb db:ByteArray} (h:PS q neg nb db) (h1:nb.size≤1000000) (h2:db.size≤1000000) (W:World):
    Calls prog 66 #[.agg #[.bool neg,.string nb,.string db]] W fun e w'=>e=.returned (.string ⟨(bB q).toArray⟩)∧Below W.heap.size W w':=by
 rw[←h.val];exact dC q W (by rw[←h.2.1,size_data];exact h1) (by rw[←h.2.2,size_data];exact h2)
theorem bD (s:ByteArray) {q:Rat} (hs:s.size≤90000) (hq:bp s.data.toList=some q):∃neg nb db,PS q neg nb db∧nb.size≤s.size∧db.size≤s.size∧∀W,Calls prog 63 #[.string s] W fun e w'=>e=.returned (.tuple #[.agg #[.bool neg,.string nb,.string db],.bool true])∧Below W.heap.size W w':=by
 have hl:=congrArg List.length (fc hq);rw[size_data] at hl;have h1:=o6 q.num;have hp:=dE q.num.natAbs;refine ⟨_,_,_,PS.of q,?_,?_,fun W=>?_⟩
 · rw[sz_txt,←hl];unfold bB;rw[aE];omega
 · rw[sz_txt,←hl];unfold bB;rw[aE]
   by_cases h:q.den=1
   · rw[h,gx]
     simp;omega
   · rw[aB h,aw];omega
 · refine (kf s W hs).mono fun e w' h=>?_
   unfold mP at h;rw[hq] at h;exact h
theorem cT (s:ByteArray) (hs:s.size≤90000) (hq:bp s.data.toList=none) (W:World):Calls prog 63 #[.string s] W fun e w'=>e=.returned (.tuple #[.agg #[.bool false,.string ⟨#[]⟩,.string ⟨#[]⟩],.bool false])∧Below W.heap.size W w':=by
 refine (kf s W hs).mono fun e w' h=>?_
 unfold mP at h;rw[hq] at h;exact h
def isI (l:List UInt8):Bool:=match bp l with | some q=>decide (q.den=1) | none=>false
def tK (x:Rat):Option Rat:=some (-x)
def sgO (l:List UInt8):Int:=dd ((bp l).getD 0).num
theorem kg (s:ByteArray) (w:World) (hs:s.size≤90000):Calls prog 52 #[.string s] w fun e w'=>e=.returned (.bool (bp s.data.toList).isSome)∧Below w.heap.size w w':=by
 cases hq:bp s.data.toList with
 | none=>
   have hp:=cT s hs hq w;clear hq
   go_enter func52,ntmps52
   go_wp2_with fail
   refine hp.mono ?_;rintro e w1 ⟨rfl,hb1⟩;have HB:=hid hb1;clear hb1 hp
   go_wp2
   go_ret
   exact ⟨rfl,HB.out.alloc HB.out.size _⟩
 | some q=>
   obtain ⟨neg,nb,db,-,-,-,hp⟩:=bD s hs hq;have hp:=hp w;clear hq
   go_enter func52,ntmps52
   go_wp2_with fail
   refine hp.mono ?_;rintro e w1 ⟨rfl,hb1⟩;have HB:=hid hb1;clear hb1 hp
   go_wp2
   go_ret
   exact ⟨rfl,HB.out.alloc HB.out.size _⟩
theorem kh (s:ByteArray) (w:World) (hs:s.size≤90000):Calls prog 43 #[.string s] w fun e w'=>e=.returned (.bool (isI s.data.toList))∧Below w.heap.size w w':=by
 cases hq:bp s.data.toList with
 | none=>
   have hp:=cT s hs hq w;have HI:Hid (isI s.data.toList=false):=hid (by unfold isI;rw[hq]);clear hq
   go_enter func43,ntmps43
   go_wp2_with fail
   refine hp.mono ?_;rintro e w1 ⟨rfl,hb1⟩;have HB:=hid hb1;clear hb1 hp
   go_wp2
   go_ret
   exact ⟨ret_bool HI.out.symm,HB.out.alloc HB.out.size _⟩
 | some q=>
   obtain ⟨neg,nb,db,hps,-,-,hp⟩:=bD s hs hq;have hp:=hp w;have hd:=hps.one;have HI:Hid (isI s.data.toList=decide (q.den=1)):=hid (by unfold isI;rw[hq]);clear hq hps;generalize decide (q.den=1)=bb at *
   go_enter func43,ntmps43
   go_wp2_with fail
   refine hp.mono ?_;rintro e w1 ⟨rfl,hb1⟩;have HB:=hid hb1;clear hb1 hp
   go_wp2
   go_ret
   exact ⟨ret_bool HI.out.symm,HB.out.alloc HB.out.size _⟩
theorem lz (s:ByteArray) (w:World) (hs:s.size≤90000):Calls prog 71 #[.string s] w fun e w'=>e=.returned (.int .i64 (sgO s.data.toList))∧Below w.heap.size w w':=by
 cases hq:bp s.data.toList with
 | none=>
   have hp:=cT s hs hq w;have HI:Hid (sgO s.data.toList=0):=hid (by unfold sgO;rw[hq];rfl);clear hq
   go_enter func71,ntmps71
   go_wp2_with fail
   refine hp.mono ?_;rintro e w1 ⟨rfl,hb1⟩;have HB:=hid hb1;clear hb1 hp
   go_wp2
   go_ret
   exact ⟨ret_int HI.out.symm,HB.out.alloc HB.out.size _⟩
 | some q=>
   obtain ⟨neg,nb,db,hps,-,-,hp⟩:=bD s hs hq;have hp:=hp w;have hz:=hps.zero;have HG:Hid (neg=decide (q.num<0)):=hid hps.1;have HI:Hid (sgO s.data.toList=dd q.num):=hid (by unfold sgO;rw[hq];rfl);clear hq hps
   by_cases h0:q.num=0
   · rw[aH h0] at hz;have HS:Hid (dd q.num=0):=hid (by rw[h0];rfl);clear h0
     go_enter func71,ntmps71
     go_wp2_with fail
     refine hp.mono ?_;rintro e w1 ⟨rfl,hb1⟩;have HB:=hid hb1;clear hb1 hp
     go_wp2
     go_ret
     exact ⟨ret_int (by rw[HI.out,HS.out]),HB.out.alloc HB.out.size _⟩
   · rw[aD h0] at hz;cases neg
     · have HS:Hid (dd q.num=1):=hid (by have:=HG.out;have h1:¬q.num<0:=(by simpa using this.symm);unfold dd;rw[aB h1,aF (by omega)]);clear h0
       go_enter func71,ntmps71
       go_wp2_with fail
       refine hp.mono ?_;rintro e w1 ⟨rfl,hb1⟩;have HB:=hid hb1;clear hb1 hp
       go_wp2
       go_ret
       exact ⟨ret_int (by rw[HI.out,HS.out]),HB.out.alloc HB.out.size _⟩
     · have HS:Hid (dd q.num= -1):=hid (by have:=HG.out;have h1:q.num<0:=(by simpa using this.symm);unfold dd;rw[aF h1]);clear h0
       go_enter func71,ntmps71
       go_wp2_with fail
       refine hp.mono ?_;rintro e w1 ⟨rfl,hb1⟩;have HB:=hid hb1;clear hb1 hp
       go_wp2
       go_ret
       exact ⟨ret_int (by rw[HI.out,HS.out]),HB.out.alloc HB.out.size _⟩
theorem mR (s:ByteArray) (w:World) (hs:s.size≤90000):Calls prog 108 #[.string s] w fun e w'=>e=.returned (.string ⟨(on1 tK s.data.toList).toArray⟩)∧Below w.heap.size w w':=by
 cases hq:bp s.data.toList with
 | none=>
   have hp:=cT s hs hq w;have HI:=hid (qP (f:=tK) hq);clear hq
   go_enter func108,ntmps108
   go_wp2_with fail
   refine hp.mono ?_;rintro e w1 ⟨rfl,hb1⟩;have HB:=hid hb1;clear hb1 hp
   go_wp2
   go_ret
   exact ⟨bK (by rw[HI.out]),HB.out.alloc HB.out.size _⟩
 | some q=>
   obtain ⟨neg,nb,db,hps,hz1,hz2,hp⟩:=bD s hs hq;have hp:=hp w;have hz:=hps.zero;have HI:Hid (on1 tK s.data.toList=bB (-q)):=hid (by rw[qO hq];rfl);clear hq;cases neg
   · by_cases h0:q.num=0
     · rw[aH h0] at hz;have htx:=fun W=>pH (hps.neg0 h0) (by omega) (by omega) W
       clear hps;clear h0
       go_enter func108,ntmps108
       go_wp2_with fail
       refine hp.mono ?_;rintro e w1 ⟨rfl,hb1⟩;have HB:=hid (hb1.alloc hb1.size (.cells #[.bool false,.string nb,.string db] 101));clear hb1 hp
       go_wp2_with fail
       refine (htx _).mono ?_;rintro e w2 ⟨rfl,hb2⟩;have HB2:=hid (HB.out.trans (hb2.mono HB.out.size));clear hb2 htx
       go_wp2
       go_ret
       exact ⟨bK (by rw[HI.out]),HB2.out⟩
     · rw[aD h0] at hz;have htx:=fun W=>pH (hps.neg2 h0) (by omega) (by omega) W
       clear hps;clear h0
       go_enter func108,ntmps108
       go_wp2_with fail
       refine hp.mono ?_;rintro e w1 ⟨rfl,hb1⟩;have HB:=hid (hb1.alloc hb1.size (.cells #[.bool false,.string nb,.string db] 101));clear hb1 hp
       go_wp2_with fail
       refine (htx _).mono ?_;rintro e w2 ⟨rfl,hb2⟩;have HB2:=hid (HB.out.trans (hb2.mono HB.out.size));clear hb2 htx
       go_wp2
       go_ret
       exact ⟨bK (by rw[HI.out]),HB2.out⟩
   · clear hz;have htx:=fun W=>pH hps.neg1 (by omega) (by omega) W
     clear hps
     go_enter func108,ntmps108
     go_wp2_with fail
     refine hp.mono ?_;rintro e w1 ⟨rfl,hb1⟩;have HB:=hid (hb1.alloc hb1.size (.cells #[.bool true,.string nb,.string db] 101));clear hb1 hp
     go_wp2_with fail
     refine (htx _).mono ?_;rintro e w2 ⟨rfl,hb2⟩;have HB2:=hid (HB.out.trans (hb2.mono HB.out.size));clear hb2 htx
     go_wp2
     go_ret
     exact ⟨bK (by rw[HI.out]),HB2.out⟩
structure TwoP (w wx:World) (G H:Nat) (n1:Bool) (s1 d1:ByteArray) (n2:Bool) (s2 d2:ByteArray):Prop where
 ha:wx.heap[G]? =some (.cells #[.bool n1,.string s1,.string d1] 101 (0,0))
 hb:wx.heap[H]? =some (.cells #[.bool n2,.string s2,.string d2] 101 (0,0))
 bel:Below w.heap.size w wx
theorem TwoP.far {w wx w1:World} {G H:Nat} {n1:Bool} {s1 d1:ByteArray} {n2:Bool} {s2 d2:ByteArray} (h:TwoP w wx G H n1 s1 d1 n2 s2 d2) (hb:Below wx.heap.size wx w1):TwoP w w1 G H n1 s1 d1 n2 s2 d2:=
 ⟨(hb.block _ (ar h.ha)).trans h.ha,(hb.block _ (ar h.hb)).trans h.hb,h.bel.trans (hb.mono h.bel.size)⟩
theorem TwoP.drewN {w wx:World} {G H:Nat} {n1:Bool} {s1 d1:ByteArray} {n2:Bool} {s2 d2:ByteArray} (h:TwoP w wx G H n1 s1 d1 n2 s2 d2) (n:Nat):TwoP w (wx.drewN n) G H n1 s1 d1 n2 s2 d2:=⟨h.ha,h.hb,aW h.bel n⟩
theorem TwoP.cells {w wx:World} {G H:Nat} {n1:Bool} {s1 d1:ByteArray} {n2:Bool} {s2 d2:ByteArray} (h:TwoP w wx G H n1 s1 d1 n2 s2 d2):wx.cell? ⟨G,0,none⟩=some (.bool n1)∧wx.cell? ⟨G,1,none⟩=some (.string s1)∧wx.cell? ⟨G,2,none⟩=some (.string d1)∧wx.cell? ⟨H,0,none⟩=some (.bool n2)∧wx.cell? ⟨H,1,none⟩=some (.string s2)∧wx.cell? ⟨H,2,none⟩=some (.string d2):=
 ⟨aa h.ha 0,aa h.ha 1,aa h.ha 2,aa h.hb 0,aa h.hb 1,aa h.hb 2⟩
theorem TwoP.new {w w1 w2:World} {n1:Bool} {s1 d1:ByteArray} {n2:Bool} {s2 d2:ByteArray} (h1:Below w.heap.size w w1)
    (h2:Below (w1.alloc (.cells #[.bool n1,.string s1,.string d1] 101)).heap.size (w1.alloc (.cells #[.bool n1,.string s1,.string d1] 101)) w2):
    TwoP w (w2.alloc (.cells #[.bool n2,.string s2,.string d2] 101)) w1.heap.size w2.heap.size n1 s1 d1 n2 s2 d2:=by
 have h3:=h1.alloc h1.size (.cells #[.bool n1,.string s1,.string d1] 101);have h4:=h3.trans (h2.mono h3.size);have h5:=(h2.block _ (ar (aq w1 _))).trans (aq w1 (.cells #[.bool n1,.string s1,.string d1] 101));exact ⟨(Below.heap_alloc w2 _ _ (ar h5)).trans h5,aq w2 _,h4.alloc h4.size _⟩
theorem bW (x y:Nat):(aU (x*y)).length≤(aU x).length+(aU y).length:=by
 refine cQ (by have:=dE x;omega) ?_;rw[Nat.pow_add];exact Nat.mul_lt_mul_of_lt_of_lt (fU x) (fU y)
theorem rn (s t:ByteArray) (w:World) (hs:s.size≤20000) (ht:t.size≤20000) (hq:bp s.data.toList=none):Calls prog 41 #[.string s,.string t] w fun e w'=>e=.returned (.string ⟨(on2 sZ s.data.toList t.data.toList).toArray⟩)∧Below w.heap.size w w':=by
 have hp:=cT s (by omega) hq w;have HI:=hid (mx (f:=sZ) (b:=t.data.toList) hq);cases hr:bp t.data.toList with
 | none=>
   have hr:=fun W=>cT t (by omega) hr W
   clear hq
   go_enter func41,ntmps41
   go_wp2_with fail
   refine hp.mono ?_;rintro e w1 ⟨rfl,hb1⟩;have HB:=hid (hb1.alloc hb1.size (.cells #[.bool false,.string ⟨#[]⟩,.string ⟨#[]⟩] 101));clear hb1 hp
   go_wp2_with fail
   refine (hr _).mono ?_;rintro e w2 ⟨rfl,hb2⟩;have HB2:=hid (HB.out.trans (hb2.mono HB.out.size));clear hb2 hr
   go_wp2
   go_ret
   exact ⟨bK (by rw[HI.out]),HB2.out.alloc HB2.out.size _⟩
 | some q=>
   obtain ⟨n2,s2,d2,-,-,-,hr⟩:=bD t (by omega) hr;clear hq
   go_enter func41,ntmps41
   go_wp2_with fail
   refine hp.mono ?_;rintro e w1 ⟨rfl,hb1⟩;have HB:=hid (hb1.alloc hb1.size (.cells #[.bool false,.string ⟨#[]⟩,.string ⟨#[]⟩] 101));clear hb1 hp
   go_wp2_with fail
   refine (hr _).mono ?_;rintro e w2 ⟨rfl,hb2⟩;have HB2:=hid (HB.out.trans (hb2.mono HB.out.size));clear hb2 hr
   go_wp2
   go_ret
   exact ⟨bK (by rw[HI.out]),HB2.out.alloc HB2.out.size _⟩
theorem pI (s t:ByteArray) (w:World) (hs:s.size≤20000) (ht:t.size≤20000) {p:Rat} (hp:bp s.data.toList=some p) (hq:bp t.data.toList=none):Calls prog 41 #[.string s,.string t] w fun e w'=>e=.returned (.string ⟨(on2 sZ s.data.toList t.data.toList).toArray⟩)∧Below w.heap.size w w':=by
 obtain ⟨n1,s1,d1,-,-,-,hp⟩:=bD s (by omega) hp;have hp:=hp w;have hr:=fun W=>cT t (by omega) hq W
 have HI:=hid (kK (f:=sZ) (a:=s.data.toList) hq);clear hq
 go_enter func41,ntmps41
 go_wp2_with fail
 refine hp.mono ?_;rintro e w1 ⟨rfl,hb1⟩;have HB:=hid (hb1.alloc hb1.size (.cells #[.bool n1,.string s1,.string d1] 101));clear hb1 hp
 go_wp2_with fail
 refine (hr _).mono ?_;rintro e w2 ⟨rfl,hb2⟩;have HB2:=hid (HB.out.trans (hb2.mono HB.out.size));clear hb2 hr
 go_wp2
 go_ret
 exact ⟨bK (by rw[HI.out]),HB2.out.alloc HB2.out.size _⟩
theorem ro (s t:ByteArray) (w:World) (hs:s.size≤20000) (ht:t.size≤20000) {p q:Rat} (hp0:bp s.data.toList=some p) (hq0:bp t.data.toList=some q):Calls prog 41 #[.string s,.string t] w fun e w'=>e=.returned (.string ⟨(on2 sZ s.data.toList t.data.toList).toArray⟩)∧Below w.heap.size w w':=by
 have HI:Hid (on2 sZ s.data.toList t.data.toList=bB (p*q)):=hid (by rw[gy hp0 hq0];rfl);obtain ⟨n1,s1,d1,hP,hs1,hd1,hp⟩:=bD s (by omega) hp0;obtain ⟨n2,s2,d2,hQ,hs2,hd2,hr⟩:=bD t (by omega) hq0;have hp:=hp w;have hm1:=fun W=>bL s1 s2 _ _ W hP.2.1 hQ.2.1 (by omega) (by omega)
 have hm2:=fun W=>bL d1 d2 _ _ W hP.2.2 hQ.2.2 (by omega) (by omega)
 have l1:(aU (p.num.natAbs*q.num.natAbs)).length≤40000:=aP (bW _ _) (by rw[←hP.2.1,←hQ.2.1,size_data,size_data];omega);have l2:(aU (p.den*q.den)).length≤40000:=aP (bW _ _) (by rw[←hP.2.2,←hQ.2.2,size_data,size_data];omega);have HRQ:Hid (en (n1 !=n2) (p.num.natAbs*q.num.natAbs) (p.den*q.den)=p*q):=hid (by rw[hP.1,hQ.1];exact xv p q);have hden:0<p.den*q.den:=Nat.mul_pos p.den_pos q.den_pos;generalize p.num.natAbs*q.num.natAbs=X at *;generalize p.den*q.den=Y at *;have hrd:=fun W=>du (n1 !=n2) ⟨(aU X).toArray⟩ ⟨(aU Y).toArray⟩ X Y W rfl rfl (by rw[sz_txt];omega) (by rw[sz_txt];omega) hden
 obtain ⟨m1,m2⟩:=gP (n1 !=n2) X Y hden;rw[HRQ.out] at hrd m1 m2;have htx:=fun W=>dC (p*q) W (bN (n:=1000000) (by omega) m1) (bN (n:=1000000) (by omega) m2)
 clear m1 m2 l1 l2 hden hP hQ hp0 hq0 HRQ;unfold iI at hrd htx;generalize p*q=qq at *;generalize (⟨(aU X).toArray⟩:ByteArray)=px at *;generalize (⟨(aU Y).toArray⟩:ByteArray)=py at *
 go_enter func41,ntmps41
 go_wp2_with fail
 refine hp.mono ?_;rintro e w1 ⟨rfl,hb1⟩;have HB1:=hid hb1;clear hb1 hp
 go_wp2_with fail
 refine (hr _).mono ?_;rintro e w2 ⟨rfl,hb2⟩;have HT:=hid (TwoP.new (n2:=n2) (s2:=s2) (d2:=d2) HB1.out hb2);clear hb2 hr
 go_wp2_with fail
 generalize (w2.alloc (.cells #[.bool n2,.string s2,.string d2] 101))=w3 at *;generalize w1.heap.size=G at *;generalize w2.heap.size=H at *;have K0:=HT.out.cells
 go_region_held3 (fun w'=>w'.cell? ⟨G,0,none⟩=some (.bool n1)∧w'.cell? ⟨G,1,none⟩=some (.string s1)∧w'.cell? ⟨G,2,none⟩=some (.string d1)∧w'.cell? ⟨H,0,none⟩=some (.bool n2)∧w'.cell? ⟨H,1,none⟩=some (.string s2)∧w'.cell? ⟨H,2,none⟩=some (.string d2))
  (first | exact K0 | exact K1 | exact K2 | exact K3 | exact K4 | go_keep)
  (first
    | (go_at_call 65
       first
        | (with_reducible refine (hm1 _).mono ?_
           rintro e w4 ⟨rfl,hb4⟩;have HT1:=hid ((HT.out.drewN _).far hb4)
           have K1:=HT1.out.cells)
        | (with_reducible refine (hm2 _).mono ?_
           rintro e w5 ⟨rfl,hb5⟩;have HT2:=hid (HT1.out.far hb5)
           have K2:=HT2.out.cells))
    | (go_at_call 64
       refine (hrd _).mono ?_;rintro e w6 ⟨rfl,hb6⟩;have HT3:=hid (HT2.out.far hb6)
       have K3:=HT3.out.cells)
    | (go_at_call 66
       refine (htx _).mono ?_;rintro e w7 ⟨rfl,hb7⟩;have HT4:=hid (HT3.out.far hb7)
       have K4:=HT4.out.cells))
 go_wp2
 go_ret
 exact ⟨bK (by rw[HI.out]),HT4.out.bel⟩
theorem tL (s t:ByteArray) (w:World) (hs:s.size≤20000) (ht:t.size≤20000):Calls prog 41 #[.string s,.string t] w fun e w'=>e=.returned (.string ⟨(on2 sZ s.data.toList t.data.toList).toArray⟩)∧Below w.heap.size w w':=by
 cases hp:bp s.data.toList with
 | none=>exact rn s t w hs ht hp
 | some p=>
   cases hq:bp t.data.toList with
   | none=>exact pI s t w hs ht hp hq
   | some q=>
     exact ro s t w hs ht hp hq
theorem rp (s t:ByteArray) (w:World) (hs:s.size≤20000) (ht:t.size≤20000) (hq:bp s.data.toList=none):Calls prog 98 #[.string s,.string t] w fun e w'=>e=.returned (.string ⟨(on2 lE s.data.toList t.data.toList).toArray⟩)∧Below w.heap.size w w':=by
 have hp:=cT s (by omega) hq w;have HI:=hid (mx (f:=lE) (b:=t.data.toList) hq);cases hr:bp t.data.toList with
 | none=>
   have hr:=fun W=>cT t (by omega) hr W
   clear hq
   go_enter func98,ntmps98
   go_wp2_with fail
   refine hp.mono ?_;rintro e w1 ⟨rfl,hb1⟩;have HB:=hid (hb1.alloc hb1.size (.cells #[.bool false,.string ⟨#[]⟩,.string ⟨#[]⟩] 101));clear hb1 hp
   go_wp2_with fail
   refine (hr _).mono ?_;rintro e w2 ⟨rfl,hb2⟩;have HB2:=hid (HB.out.trans (hb2.mono HB.out.size));clear hb2 hr
   go_wp2
   go_ret
   exact ⟨bK (by rw[HI.out]),HB2.out.alloc HB2.out.size _⟩
 | some q=>
   obtain ⟨n2,s2,d2,-,-,-,hr⟩:=bD t (by omega) hr;clear hq
   go_enter func98,ntmps98
   go_wp2_with fail
   refine hp.mono ?_;rintro e w1 ⟨rfl,hb1⟩;have HB:=hid (hb1.alloc hb1.size (.cells #[.bool false,.string ⟨#[]⟩,.string ⟨#[]⟩] 101));clear hb1 hp
   go_wp2_with fail
   refine (hr _).mono ?_;rintro e w2 ⟨rfl,hb2⟩;have HB2:=hid (HB.out.trans (hb2.mono HB.out.size));clear hb2 hr
   go_wp2
   go_ret
   exact ⟨bK (by rw[HI.out]),HB2.out.alloc HB2.out.size _⟩
theorem pJ (s t:ByteArray) (w:World) (hs:s.size≤20000) (ht:t.size≤20000) {p:Rat} (hp:bp s.data.toList=some p) (hq:bp t.data.toList=none):Calls prog 98 #[.string s,.string t] w fun e w'=>e=.returned (.string ⟨(on2 lE s.data.toList t.data.toList).toArray⟩)∧Below w.heap.size w w':=by
 obtain ⟨n1,s1,d1,-,-,-,hp⟩:=bD s (by omega) hp;have hp:=hp w;have hr:=fun W=>cT t (by omega) hq W
 have HI:=hid (kK (f:=lE) (a:=s.data.toList) hq);clear hq
 go_enter func98,ntmps98
 go_wp2_with fail
 refine hp.mono ?_;rintro e w1 ⟨rfl,hb1⟩;have HB:=hid (hb1.alloc hb1.size (.cells #[.bool n1,.string s1,.string d1] 101));clear hb1 hp
 go_wp2_with fail
 refine (hr _).mono ?_;rintro e w2 ⟨rfl,hb2⟩;have HB2:=hid (HB.out.trans (hb2.mono HB.out.size));clear hb2 hr
 go_wp2
 go_ret
 exact ⟨bK (by rw[HI.out]),HB2.out.alloc HB2.out.size _⟩
theorem rq (s t:ByteArray) (w:World) (hs:s.size≤20000) (ht:t.size≤20000) {p q:Rat} (hp0:bp s.data.toList=some p) (hq0:bp t.data.toList=some q) (h0:q.num=0):Calls prog 98 #[.string s,.string t] w fun e w'=>e=.returned (.string ⟨(on2 lE s.data.toList t.data.toList).toArray⟩)∧Below w.heap.size w w':=by
 have HI:Hid (on2 lE s.data.toList t.data.toList=[]):=hid (by rw[gy hp0 hq0];unfold lE;rw[aF h0];rfl);obtain ⟨n1,s1,d1,hP,hs1,hd1,hp⟩:=bD s (by omega) hp0;obtain ⟨n2,s2,d2,hQ,hs2,hd2,hr⟩:=bD t (by omega) hq0;have hp:=hp w;have hz:=hQ.zero;rw[aH h0] at hz;clear hP hQ hp0 hq0 h0
 go_enter func98,ntmps98
 go_wp2_with fail
 refine hp.mono ?_;rintro e w1 ⟨rfl,hb1⟩;have HB1:=hid hb1;clear hb1 hp
 go_wp2_with fail
 refine (hr _).mono ?_;rintro e w2 ⟨rfl,hb2⟩;have HT:=hid (TwoP.new (n2:=n2) (s2:=s2) (d2:=d2) HB1.out hb2);clear hb2 hr
 go_wp2
 go_ret
 exact ⟨bK (by rw[HI.out]),HT.out.bel⟩
theorem rt (s t:ByteArray) (w:World) (hs:s.size≤20000) (ht:t.size≤20000) {p q:Rat} (hp0:bp s.data.toList=some p) (hq0:bp t.data.toList=some q) (h0:q.num≠0):Calls prog 98 #[.string s,.string t] w fun e w'=>e=.returned (.string ⟨(on2 lE s.data.toList t.data.toList).toArray⟩)∧Below w.heap.size w w':=by
 have HI:Hid (on2 lE s.data.toList t.data.toList=bB (p / q)):=hid (by rw[gy hp0 hq0];unfold lE;rw[aB h0];rfl);obtain ⟨n1,s1,d1,hP,hs1,hd1,hp⟩:=bD s (by omega) hp0;obtain ⟨n2,s2,d2,hQ,hs2,hd2,hr⟩:=bD t (by omega) hq0;have hp:=hp w;have hz:=hQ.zero;rw[aD h0] at hz;have hm1:=fun W=>bL s1 d2 _ _ W hP.2.1 hQ.2.2 (by omega) (by omega)
 have hm2:=fun W=>bL d1 s2 _ _ W hP.2.2 hQ.2.1 (by omega) (by omega)
 have l1:(aU (p.num.natAbs*q.den)).length≤40000:=aP (bW _ _) (by rw[←hP.2.1,←hQ.2.2,size_data,size_data];omega);have l2:(aU (p.den*q.num.natAbs)).length≤40000:=aP (bW _ _) (by rw[←hP.2.2,←hQ.2.1,size_data,size_data];omega);have HRQ:Hid (en (n1 !=n2) (p.num.natAbs*q.den) (p.den*q.num.natAbs)=p / q):=hid (by rw[hP.1,hQ.1];exact qN p q h0);have hden:0<p.den*q.num.natAbs:=Nat.mul_pos p.den_pos (by omega);generalize p.num.natAbs*q.den=X at *;generalize p.den*q.num.natAbs=Y at *;have hrd:=fun W=>du (n1 !=n2) ⟨(aU X).toArray⟩ ⟨(aU Y).toArray⟩ X Y W rfl rfl (by rw[sz_txt];omega) (by rw[sz_txt];omega) hden
 obtain ⟨m1,m2⟩:=gP (n1 !=n2) X Y hden;rw[HRQ.out] at hrd m1 m2;have htx:=fun W=>dC (p / q) W (bN (n:=1000000) (by omega) m1) (bN (n:=1000000) (by omega) m2)
 clear m1 m2 l1 l2 hden hP hQ hp0 hq0 HRQ h0;unfold iI at hrd htx;generalize p / q=qq at *;generalize (⟨(aU X).toArray⟩:ByteArray)=px at *;generalize (⟨(aU Y).toArray⟩:ByteArray)=py at *
 go_enter func98,ntmps98
 go_wp2_with fail
 refine hp.mono ?_;rintro e w1 ⟨rfl,hb1⟩;have HB1:=hid hb1;clear hb1 hp
 go_wp2_with fail
 refine (hr _).mono ?_;rintro e w2 ⟨rfl,hb2⟩;have HT:=hid (TwoP.new (n2:=n2) (s2:=s2) (d2:=d2) HB1.out hb2);clear hb2 hr
 go_wp2_with fail
 generalize (w2.alloc (.cells #[.bool n2,.string s2,.string d2] 101))=w3 at *;generalize w1.heap.size=G at *;generalize w2.heap.size=H at *;have K0:=HT.out.cells
 go_region_held3 (fun w'=>w'.cell? ⟨G,0,none⟩=some (.bool n1)∧w'.cell? ⟨G,1,none⟩=some (.string s1)∧w'.cell? ⟨G,2,none⟩=some (.string d1)∧w'.cell? ⟨H,0,none⟩=some (.bool n2)∧w'.cell? ⟨H,1,none⟩=some (.string s2)∧w'.cell? ⟨H,2,none⟩=some (.string d2))
  (first | exact K0 | exact K1 | exact K2 | exact K3 | exact K4 | go_keep)
  (first
    | (go_at_call 65
       first
        | (with_reducible refine (hm1 _).mono ?_
           rintro e w4 ⟨rfl,hb4⟩;have HT1:=hid ((HT.out.drewN _).far hb4)
           have K1:=HT1.out.cells)
        | (with_reducible refine (hm2 _).mono ?_
           rintro e w5 ⟨rfl,hb5⟩;have HT2:=hid (HT1.out.far hb5)
           have K2:=HT2.out.cells))
    | (go_at_call 64
       refine (hrd _).mono ?_;rintro e w6 ⟨rfl,hb6⟩;have HT3:=hid (HT2.out.far hb6)
       have K3:=HT3.out.cells)
    | (go_at_call 66
       refine (htx _).mono ?_;rintro e w7 ⟨rfl,hb7⟩;have HT4:=hid (HT3.out.far hb7)
       have K4:=HT4.out.cells))
 go_wp2
 go_ret
 exact ⟨bK (by rw[HI.out]),HT4.out.bel⟩
theorem tM (s t:ByteArray) (w:World) (hs:s.size≤20000) (ht:t.size≤20000):Calls prog 98 #[.string s,.string t] w fun e w'=>e=.returned (.string ⟨(on2 lE s.data.toList t.data.toList).toArray⟩)∧Below w.heap.size w w':=by
 cases hp:bp s.data.toList with
 | none=>exact rp s t w hs ht hp
 | some p=>
   cases hq:bp t.data.toList with
   | none=>exact pJ s t w hs ht hp hq
   | some q=>
     by_cases h0:q.num=0
     · exact rq s t w hs ht hp hq h0
     · exact rt s t w hs ht hp hq h0
theorem ru {x y k:Nat} (hx:(aU x).length≤k) (hy:(aU y).length≤k):(aU (x+y)).length≤k+1:=by
 refine cQ (by omega) ?_;have h1:=aC (fU x) (kI hx);have h2:=aC (fU y) (kI hy);have h4:10 ^ (k+1)=10*10 ^ k:=Nat.pow_succ'
 omega
theorem rx (s t:ByteArray) (w:World) (hs:s.size≤20000) (ht:t.size≤20000) (hq:bp s.data.toList=none):Calls prog 107 #[.string s,.string t] w fun e w'=>e=.returned (.string ⟨(on2 jD s.data.toList t.data.toList).toArray⟩)∧Below w.heap.size w w':=by
 have hp:=cT s (by omega) hq w;have HI:=hid (mx (f:=jD) (b:=t.data.toList) hq);cases hr:bp t.data.toList with
 | none=>
   have hr:=fun W=>cT t (by omega) hr W
   clear hq
   go_enter func107,ntmps107
   go_wp2_with fail
   refine hp.mono ?_;rintro e w1 ⟨rfl,hb1⟩;have HB:=hid (hb1.alloc hb1.size (.cells #[.bool false,.string ⟨#[]⟩,.string ⟨#[]⟩] 101));clear hb1 hp
   go_wp2_with fail
   refine (hr _).mono ?_;rintro e w2 ⟨rfl,hb2⟩;have HB2:=hid (HB.out.trans (hb2.mono HB.out.size));clear hb2 hr
   go_wp2
   go_ret
   exact ⟨bK (by rw[HI.out]),HB2.out.alloc HB2.out.size _⟩
 | some q=>
   obtain ⟨n2,s2,d2,-,-,-,hr⟩:=bD t (by omega) hr;clear hq
   go_enter func107,ntmps107
   go_wp2_with fail
   refine hp.mono ?_;rintro e w1 ⟨rfl,hb1⟩;have HB:=hid (hb1.alloc hb1.size (.cells #[.bool false,.string ⟨#[]⟩,.string ⟨#[]⟩] 101));clear hb1 hp
   go_wp2_with fail
   refine (hr _).mono ?_;rintro e w2 ⟨rfl,hb2⟩;have HB2:=hid (HB.out.trans (hb2.mono HB.out.size));clear hb2 hr
   go_wp2
   go_ret
   exact ⟨bK (by rw[HI.out]),HB2.out.alloc HB2.out.size _⟩
theorem pK (s t:ByteArray) (w:World) (hs:s.size≤20000) (ht:t.size≤20000) {p:Rat} (hp:bp s.data.toList=some p) (hq:bp t.data.toList=none):Calls prog 107 #[.string s,.string t] w fun e w'=>e=.returned (.string ⟨(on2 jD s.data.toList t.data.toList).toArray⟩)∧Below w.heap.size w w':=by
 obtain ⟨n1,s1,d1,-,-,-,hp⟩:=bD s (by omega) hp;have hp:=hp w;have hr:=fun W=>cT t (by omega) hq W
 have HI:=hid (kK (f:=jD) (a:=s.data.toList) hq);clear hq
 go_enter func107,ntmps107
 go_wp2_with fail
 refine hp.mono ?_;rintro e w1 ⟨rfl,hb1⟩;have HB:=hid (hb1.alloc hb1.size (.cells #[.bool n1,.string s1,.string d1] 101));clear hb1 hp
 go_wp2_with fail
 refine (hr _).mono ?_;rintro e w2 ⟨rfl,hb2⟩;have HB2:=hid (HB.out.trans (hb2.mono HB.out.size));clear hb2 hr
 go_wp2
 go_ret
 exact ⟨bK (by rw[HI.out]),HB2.out.alloc HB2.out.size _⟩
theorem ry (s t:ByteArray) (w:World) (hs:s.size≤20000) (ht:t.size≤20000) {p q:Rat} (hp0:bp s.data.toList=some p) (hq0:bp t.data.toList=some q) (heq:∀a b,a=decide (p.num<0)→b=decide (q.num<0)→a=b):Calls prog 107 #[.string s,.string t] w fun e w'=>e=.returned (.string ⟨(on2 jD s.data.toList t.data.toList).toArray⟩)∧Below w.heap.size w w':=by
 have HI:Hid (on2 jD s.data.toList t.data.toList=bB (p+q)):=hid (by rw[gy hp0 hq0];rfl);obtain ⟨n1,s1,d1,hP,hs1,hd1,hp⟩:=bD s (by omega) hp0;obtain ⟨n2,s2,d2,hQ,hs2,hd2,hr⟩:=bD t (by omega) hq0;have hp:=hp w;have hm1:=fun W=>bL s1 d2 _ _ W hP.2.1 hQ.2.2 (by omega) (by omega)
 have hm2:=fun W=>bL s2 d1 _ _ W hQ.2.1 hP.2.2 (by omega) (by omega)
 have hm3:=fun W=>bL d1 d2 _ _ W hP.2.2 hQ.2.2 (by omega) (by omega)
 have l1:(aU (p.num.natAbs*q.den)).length≤40000:=aP (bW _ _) (by rw[←hP.2.1,←hQ.2.2,size_data,size_data];omega);have l2:(aU (q.num.natAbs*p.den)).length≤40000:=aP (bW _ _) (by rw[←hQ.2.1,←hP.2.2,size_data,size_data];omega);have l3:(aU (p.den*q.den)).length≤40000:=aP (bW _ _) (by rw[←hP.2.2,←hQ.2.2,size_data,size_data];omega);have hden:0<p.den*q.den:=Nat.mul_pos p.den_pos q.den_pos;have HRQ:Hid (en n1 (p.num.natAbs*q.den+q.num.natAbs*p.den) (p.den*q.den)=p+q):=hid (by rw[hP.1];exact og p q (by rw[←hP.1,←hQ.1];exact (heq n1 n2 hP.1 hQ.1)));have hbe:(n1==n2)=true:=by simpa using heq n1 n2 hP.1 hQ.1
 clear heq;generalize p.num.natAbs*q.den=X at *;generalize q.num.natAbs*p.den=Y at *;generalize p.den*q.den=D at *;have hop:=fun W=>nC ⟨(aU X).toArray⟩ ⟨(aU Y).toArray⟩ X Y W rfl rfl (by rw[sz_txt];omega) (by rw[sz_txt];omega)
 have l4:(aU (X+Y)).length≤40001:=ru l1 l2;generalize X+Y=Z at *;have hrd:=fun W=>du n1 ⟨(aU Z).toArray⟩ ⟨(aU D).toArray⟩ Z D W rfl rfl (by rw[sz_txt];omega) (by rw[sz_txt];omega) hden
 obtain ⟨m1,m2⟩:=gP n1 Z D hden;rw[HRQ.out] at hrd m1 m2;have htx:=fun W=>dC (p+q) W (bN (n:=1000000) (by omega) m1) (bN (n:=1000000) (by omega) m2)
 clear m1 m2 l1 l2 l3 l4 hden hP hQ hp0 hq0 HRQ;unfold iI at hrd htx;generalize p+q=qq at *;generalize (⟨(aU X).toArray⟩:ByteArray)=px at *;generalize (⟨(aU Y).toArray⟩:ByteArray)=py at *;generalize (⟨(aU D).toArray⟩:ByteArray)=pd at *;generalize (⟨(aU Z).toArray⟩:ByteArray)=pz at *
 go_enter func107,ntmps107
 go_wp2_with fail
 refine hp.mono ?_;rintro e w1 ⟨rfl,hb1⟩;have HB1:=hid hb1;clear hb1 hp
 go_wp2_with fail
 refine (hr _).mono ?_;rintro e w2 ⟨rfl,hb2⟩;have HT:=hid (TwoP.new (n2:=n2) (s2:=s2) (d2:=d2) HB1.out hb2);clear hb2 hr
 go_wp2_with fail
 generalize (w2.alloc (.cells #[.bool n2,.string s2,.string d2] 101))=w3 at *;generalize w1.heap.size=G at *;generalize w2.heap.size=H at *;have K0:=HT.out.cells
 go_region_held3 (fun w'=>w'.cell? ⟨G,0,none⟩=some (.bool n1)∧w'.cell? ⟨G,1,none⟩=some (.string s1)∧w'.cell? ⟨G,2,none⟩=some (.string d1)∧w'.cell? ⟨H,0,none⟩=some (.bool n2)∧w'.cell? ⟨H,1,none⟩=some (.string s2)∧w'.cell? ⟨H,2,none⟩=some (.string d2))
  (first | exact K0 | exact K1 | exact K2 | exact K3 | go_keep)
  (first
    | (go_at_call 65
       first
        | (with_reducible refine (hm1 _).mono ?_
           rintro e w4 ⟨rfl,hb4⟩;have HT1:=hid ((HT.out.drewN _).far hb4)
           have K1:=HT1.out.cells)
        | (with_reducible refine (hm2 _).mono ?_
           rintro e w5 ⟨rfl,hb5⟩;have HT2:=hid (HT1.out.far hb5)
           have K2:=HT2.out.cells)
        | (with_reducible refine (hm3 _).mono ?_
           rintro e w6 ⟨rfl,hb6⟩;have HT3:=hid (HT2.out.far hb6)
           have K3:=HT3.out.cells)))
 clear hm1 hm2 hm3 K0 K1 K2;obtain ⟨y0,y1,y2,y3,y4,y5⟩:=K3
 go_wp2_with fail
 have K3:w6.cell? ⟨G,0,none⟩=some (.bool n1)∧w6.cell? ⟨G,1,none⟩=some (.string s1)∧w6.cell? ⟨G,2,none⟩=some (.string d1)∧w6.cell? ⟨H,0,none⟩=some (.bool n2)∧w6.cell? ⟨H,1,none⟩=some (.string s2)∧w6.cell? ⟨H,2,none⟩=some (.string d2):=⟨y0,y1,y2,y3,y4,y5⟩
 clear y0 y1 y2 y3 y4 y5
 go_region_held3 (fun w'=>w'.cell? ⟨G,0,none⟩=some (.bool n1)∧w'.cell? ⟨G,1,none⟩=some (.string s1)∧w'.cell? ⟨G,2,none⟩=some (.string d1)∧w'.cell? ⟨H,0,none⟩=some (.bool n2)∧w'.cell? ⟨H,1,none⟩=some (.string s2)∧w'.cell? ⟨H,2,none⟩=some (.string d2))
  (first | exact K3 | exact K5 | exact K6 | exact K7 | go_keep)
  (first
    | (go_at_call 149
       refine (hop _).mono ?_;rintro e w8 ⟨rfl,hb8⟩;have HT5:=hid ((HT3.out.drewN _).far hb8)
       have K5:=HT5.out.cells)
    | (go_at_call 64
       refine (hrd _).mono ?_;rintro e w9 ⟨rfl,hb9⟩;have HT6:=hid (HT5.out.far hb9)
       have K6:=HT6.out.cells)
    | (go_at_call 66
       refine (htx _).mono ?_;rintro e w10 ⟨rfl,hb10⟩;have HT7:=hid (HT6.out.far hb10)
       have K7:=HT7.out.cells))
 go_wp2
 go_ret
 exact ⟨bK (by rw[HI.out]),HT7.out.bel⟩
theorem rz (s t:ByteArray) (w:World) (hs:s.size≤20000) (ht:t.size≤20000) {p q:Rat} (hp0:bp s.data.toList=some p) (hq0:bp t.data.toList=some q) (hne:decide (p.num<0)≠decide (q.num<0)) (hle:q.num.natAbs*p.den≤p.num.natAbs*q.den):Calls prog 107 #[.string s,.string t] w fun e w'=>e=.returned (.string ⟨(on2 jD s.data.toList t.data.toList).toArray⟩)∧Below w.heap.size w w':=by
 have HI:Hid (on2 jD s.data.toList t.data.toList=bB (p+q)):=hid (by rw[gy hp0 hq0];rfl);obtain ⟨n1,s1,d1,hP,hs1,hd1,hp⟩:=bD s (by omega) hp0;obtain ⟨n2,s2,d2,hQ,hs2,hd2,hr⟩:=bD t (by omega) hq0;have hp:=hp w;have hm1:=fun W=>bL s1 d2 _ _ W hP.2.1 hQ.2.2 (by omega) (by omega)
 have hm2:=fun W=>bL s2 d1 _ _ W hQ.2.1 hP.2.2 (by omega) (by omega)
 have hm3:=fun W=>bL d1 d2 _ _ W hP.2.2 hQ.2.2 (by omega) (by omega)
 have l1:(aU (p.num.natAbs*q.den)).length≤40000:=aP (bW _ _) (by rw[←hP.2.1,←hQ.2.2,size_data,size_data];omega);have l2:(aU (q.num.natAbs*p.den)).length≤40000:=aP (bW _ _) (by rw[←hQ.2.1,←hP.2.2,size_data,size_data];omega);have l3:(aU (p.den*q.den)).length≤40000:=aP (bW _ _) (by rw[←hP.2.2,←hQ.2.2,size_data,size_data];omega);have hden:0<p.den*q.den:=Nat.mul_pos p.den_pos q.den_pos
 have hbe:(n1==n2)=false:=by
  rw[hP.1,hQ.1];simpa using hne
 have HRQ:Hid (en n1 (p.num.natAbs*q.den-q.num.natAbs*p.den) (p.den*q.den)=p+q):=hid (by rw[hP.1];exact kH p q hne hle);clear hne;generalize p.num.natAbs*q.den=X at *;generalize q.num.natAbs*p.den=Y at *;generalize p.den*q.den=D at *;have hop:=fun W=>fW ⟨(aU X).toArray⟩ ⟨(aU Y).toArray⟩ X Y W rfl rfl (by rw[sz_txt];omega) (by omega)
 have l4:(aU (X-Y)).length≤40001:=bN (d:=X) (by omega) (by omega);generalize X-Y=Z at *;have hrd:=fun W=>du n1 ⟨(aU Z).toArray⟩ ⟨(aU D).toArray⟩ Z D W rfl rfl (by rw[sz_txt];omega) (by rw[sz_txt];omega) hden
 obtain ⟨m1,m2⟩:=gP n1 Z D hden;rw[HRQ.out] at hrd m1 m2;have htx:=fun W=>dC (p+q) W (bN (n:=1000000) (by omega) m1) (bN (n:=1000000) (by omega) m2)
 have hcm:=fun W=>fV ⟨(aU X).toArray⟩ ⟨(aU Y).toArray⟩ X Y W rfl rfl
 have hcn:0≤eS X Y:=by unfold eS;split <;> (try split) <;> omega
 generalize eS X Y=cc at *;clear hle;clear m1 m2 l1 l2 l3 l4 hden hP hQ hp0 hq0 HRQ;unfold iI at hrd htx;generalize p+q=qq at *;generalize (⟨(aU X).toArray⟩:ByteArray)=px at *;generalize (⟨(aU Y).toArray⟩:ByteArray)=py at *;generalize (⟨(aU D).toArray⟩:ByteArray)=pd at *;generalize (⟨(aU Z).toArray⟩:ByteArray)=pz at *
 go_enter func107,ntmps107
 go_wp2_with fail
 refine hp.mono ?_;rintro e w1 ⟨rfl,hb1⟩;have HB1:=hid hb1;clear hb1 hp
 go_wp2_with fail
 refine (hr _).mono ?_;rintro e w2 ⟨rfl,hb2⟩;have HT:=hid (TwoP.new (n2:=n2) (s2:=s2) (d2:=d2) HB1.out hb2);clear hb2 hr
 go_wp2_with fail
 generalize (w2.alloc (.cells #[.bool n2,.string s2,.string d2] 101))=w3 at *;generalize w1.heap.size=G at *;generalize w2.heap.size=H at *;have K0:=HT.out.cells
 go_region_held3 (fun w'=>w'.cell? ⟨G,0,none⟩=some (.bool n1)∧w'.cell? ⟨G,1,none⟩=some (.string s1)∧w'.cell? ⟨G,2,none⟩=some (.string d1)∧w'.cell? ⟨H,0,none⟩=some (.bool n2)∧w'.cell? ⟨H,1,none⟩=some (.string s2)∧w'.cell? ⟨H,2,none⟩=some (.string d2))
  (first | exact K0 | exact K1 | exact K2 | exact K3 | go_keep)
  (first
    | (go_at_call 65
       first
        | (with_reducible refine (hm1 _).mono ?_
           rintro e w4 ⟨rfl,hb4⟩;have HT1:=hid ((HT.out.drewN _).far hb4)
           have K1:=HT1.out.cells)
        | (with_reducible refine (hm2 _).mono ?_
           rintro e w5 ⟨rfl,hb5⟩;have HT2:=hid (HT1.out.far hb5)
           have K2:=HT2.out.cells)
        | (with_reducible refine (hm3 _).mono ?_
           rintro e w6 ⟨rfl,hb6⟩;have HT3:=hid (HT2.out.far hb6)
           have K3:=HT3.out.cells)))
 clear hm1 hm2 hm3 K0 K1 K2;obtain ⟨y0,y1,y2,y3,y4,y5⟩:=K3
 go_wp2_with fail
 refine (hcm _).mono ?_;rintro e w7 ⟨rfl,hb7⟩;have HT4:=hid (HT3.out.far hb7);clear hb7 hcm y0 y1 y2 y3 y4 y5;have K3:=HT4.out.cells
 go_wp2_with fail
 go_region_held3 (fun w'=>w'.cell? ⟨G,0,none⟩=some (.bool n1)∧w'.cell? ⟨G,1,none⟩=some (.string s1)∧w'.cell? ⟨G,2,none⟩=some (.string d1)∧w'.cell? ⟨H,0,none⟩=some (.bool n2)∧w'.cell? ⟨H,1,none⟩=some (.string s2)∧w'.cell? ⟨H,2,none⟩=some (.string d2))
  (first | exact K3 | exact K5 | exact K6 | exact K7 | go_keep)
  (first
    | (go_at_call 147
       refine (hop _).mono ?_;rintro e w8 ⟨rfl,hb8⟩;have HT5:=hid ((HT4.out.drewN _).far hb8)
       have K5:=HT5.out.cells)
    | (go_at_call 64
       refine (hrd _).mono ?_;rintro e w9 ⟨rfl,hb9⟩;have HT6:=hid (HT5.out.far hb9)
       have K6:=HT6.out.cells)
    | (go_at_call 66
       refine (htx _).mono ?_;rintro e w10 ⟨rfl,hb10⟩;have HT7:=hid (HT6.out.far hb10)
       have K7:=HT7.out.cells))
 go_wp2
 go_ret
 exact ⟨bK (by rw[HI.out]),HT7.out.bel⟩
theorem rA (s t:ByteArray) (w:World) (hs:s.size≤20000) (ht:t.size≤20000) {p q:Rat} (hp0:bp s.data.toList=some p) (hq0:bp t.data.toList=some q) (hne:decide (p.num<0)≠decide (q.num<0)) (hle:p.num.natAbs*q.den<q.num.natAbs*p.den):Calls prog 107 #[.string s,.string t] w fun e w'=>e=.returned (.string ⟨(on2 jD s.data.toList t.data.toList).toArray⟩)∧Below w.heap.size w w':=by
 have HI:Hid (on2 jD s.data.toList t.data.toList=bB (p+q)):=hid (by rw[gy hp0 hq0];rfl);obtain ⟨n1,s1,d1,hP,hs1,hd1,hp⟩:=bD s (by omega) hp0;obtain ⟨n2,s2,d2,hQ,hs2,hd2,hr⟩:=bD t (by omega) hq0;have hp:=hp w;have hm1:=fun W=>bL s1 d2 _ _ W hP.2.1 hQ.2.2 (by omega) (by omega)
 have hm2:=fun W=>bL s2 d1 _ _ W hQ.2.1 hP.2.2 (by omega) (by omega)
 have hm3:=fun W=>bL d1 d2 _ _ W hP.2.2 hQ.2.2 (by omega) (by omega)
 have l1:(aU (p.num.natAbs*q.den)).length≤40000:=aP (bW _ _) (by rw[←hP.2.1,←hQ.2.2,size_data,size_data];omega);have l2:(aU (q.num.natAbs*p.den)).length≤40000:=aP (bW _ _) (by rw[←hQ.2.1,←hP.2.2,size_data,size_data];omega);have l3:(aU (p.den*q.den)).length≤40000:=aP (bW _ _) (by rw[←hP.2.2,←hQ.2.2,size_data,size_data];omega);have hden:0<p.den*q.den:=Nat.mul_pos p.den_pos q.den_pos
 have hbe:(n1==n2)=false:=by
  rw[hP.1,hQ.1];simpa using hne
 have HRQ:Hid (en n2 (q.num.natAbs*p.den-p.num.natAbs*q.den) (p.den*q.den)=p+q):=hid (by rw[hQ.1];exact oh p q hne (by omega));clear hne;generalize p.num.natAbs*q.den=X at *;generalize q.num.natAbs*p.den=Y at *;generalize p.den*q.den=D at *;have hop:=fun W=>fW ⟨(aU Y).toArray⟩ ⟨(aU X).toArray⟩ Y X W rfl rfl (by rw[sz_txt];omega) (by omega)
 have l4:(aU (Y-X)).length≤40001:=bN (d:=Y) (by omega) (by omega);generalize Y-X=Z at *;have hrd:=fun W=>du n2 ⟨(aU Z).toArray⟩ ⟨(aU D).toArray⟩ Z D W rfl rfl (by rw[sz_txt];omega) (by rw[sz_txt];omega) hden
 obtain ⟨m1,m2⟩:=gP n2 Z D hden;rw[HRQ.out] at hrd m1 m2;have htx:=fun W=>dC (p+q) W (bN (n:=1000000) (by omega) m1) (bN (n:=1000000) (by omega) m2)
 have hcm:=fun W=>fV ⟨(aU X).toArray⟩ ⟨(aU Y).toArray⟩ X Y W rfl rfl
 have hcn:¬0≤eS X Y:=by unfold eS;rw[aF hle];omega
 generalize eS X Y=cc at *;clear hle;clear m1 m2 l1 l2 l3 l4 hden hP hQ hp0 hq0 HRQ;unfold iI at hrd htx;generalize p+q=qq at *;generalize (⟨(aU X).toArray⟩:ByteArray)=px at *;generalize (⟨(aU Y).toArray⟩:ByteArray)=py at *;generalize (⟨(aU D).toArray⟩:ByteArray)=pd at *;generalize (⟨(aU Z).toArray⟩:ByteArray)=pz at *
 go_enter func107,ntmps107
 go_wp2_with fail
 refine hp.mono ?_;rintro e w1 ⟨rfl,hb1⟩;have HB1:=hid hb1;clear hb1 hp
 go_wp2_with fail
 refine (hr _).mono ?_;rintro e w2 ⟨rfl,hb2⟩;have HT:=hid (TwoP.new (n2:=n2) (s2:=s2) (d2:=d2) HB1.out hb2);clear hb2 hr
 go_wp2_with fail
 generalize (w2.alloc (.cells #[.bool n2,.string s2,.string d2] 101))=w3 at *;generalize w1.heap.size=G at *;generalize w2.heap.size=H at *;have K0:=HT.out.cells
 go_region_held3 (fun w'=>w'.cell? ⟨G,0,none⟩=some (.bool n1)∧w'.cell? ⟨G,1,none⟩=some (.string s1)∧w'.cell? ⟨G,2,none⟩=some (.string d1)∧w'.cell? ⟨H,0,none⟩=some (.bool n2)∧w'.cell? ⟨H,1,none⟩=some (.string s2)∧w'.cell? ⟨H,2,none⟩=some (.string d2))
  (first | exact K0 | exact K1 | exact K2 | exact K3 | go_keep)
  (first
    | (go_at_call 65
       first
        | (with_reducible refine (hm1 _).mono ?_
           rintro e w4 ⟨rfl,hb4⟩;have HT1:=hid ((HT.out.drewN _).far hb4)
           have K1:=HT1.out.cells)
        | (with_reducible refine (hm2 _).mono ?_
           rintro e w5 ⟨rfl,hb5⟩;have HT2:=hid (HT1.out.far hb5)
           have K2:=HT2.out.cells)
        | (with_reducible refine (hm3 _).mono ?_
           rintro e w6 ⟨rfl,hb6⟩;have HT3:=hid (HT2.out.far hb6)
           have K3:=HT3.out.cells)))
 clear hm1 hm2 hm3 K0 K1 K2;obtain ⟨y0,y1,y2,y3,y4,y5⟩:=K3
 go_wp2_with fail
 refine (hcm _).mono ?_;rintro e w7 ⟨rfl,hb7⟩;have HT4:=hid (HT3.out.far hb7);clear hb7 hcm y0 y1 y2 y3 y4 y5;have K3:=HT4.out.cells
 go_wp2_with fail
 go_region_held3 (fun w'=>w'.cell? ⟨G,0,none⟩=some (.bool n1)∧w'.cell? ⟨G,1,none⟩=some (.string s1)∧w'.cell? ⟨G,2,none⟩=some (.string d1)∧w'.cell? ⟨H,0,none⟩=some (.bool n2)∧w'.cell? ⟨H,1,none⟩=some (.string s2)∧w'.cell? ⟨H,2,none⟩=some (.string d2))
  (first | exact K3 | exact K5 | exact K6 | exact K7 | go_keep)
  (first
    | (go_at_call 147
       refine (hop _).mono ?_;rintro e w8 ⟨rfl,hb8⟩;have HT5:=hid ((HT4.out.drewN _).far hb8)
       have K5:=HT5.out.cells)
    | (go_at_call 64
       refine (hrd _).mono ?_;rintro e w9 ⟨rfl,hb9⟩;have HT6:=hid (HT5.out.far hb9)
       have K6:=HT6.out.cells)
    | (go_at_call 66
       refine (htx _).mono ?_;rintro e w10 ⟨rfl,hb10⟩;have HT7:=hid (HT6.out.far hb10)
       have K7:=HT7.out.cells))
 go_wp2
 go_ret
 exact ⟨bK (by rw[HI.out]),HT7.out.bel⟩
theorem tN (s t:ByteArray) (w:World) (hs:s.size≤20000) (ht:t.size≤20000):Calls prog 107 #[.string s,.string t] w fun e w'=>e=.returned (.string ⟨(on2 jD s.data.toList t.data.toList).toArray⟩)∧Below w.heap.size w w':=by
 cases hp:bp s.data.toList with
 | none=>exact rx s t w hs ht hp
 | some p=>
   cases hq:bp t.data.toList with
   | none=>exact pK s t w hs ht hp hq
   | some q=>
     by_cases he:decide (p.num<0)=decide (q.num<0)
     · exact ry s t w hs ht hp hq (fun a b ha hb=>by rw[ha,hb,he])
     · rcases Nat.lt_or_ge (p.num.natAbs*q.den) (q.num.natAbs*p.den) with h | h
       · exact rA s t w hs ht hp hq he h
       · exact rz s t w hs ht hp hq he h
def TX (q:Rat):ByteArray:=⟨(bB q).toArray⟩
theorem eZ (q:Rat):(TX q).data.toList=bB q:=rfl
theorem pL (q:Rat):(TX q).size=(bB q).length:=sz_txt _
theorem dP (q:Rat):bp (TX q).data.toList=some q:=dX q
theorem DS.sz {d:Nat} {q:Rat} (h:DS d q):(TX q).size≤2*d+4:=by rw[pL];exact Nmx.DS.len h
def ig (q:Rat) (W:World) (e:Ending) (w':World):Prop:=e=.returned (.string (TX q))∧Below W.heap.size W w'
theorem Br (p q:Rat):((TX p).toList==(TX q).toList)=decide (p=q):=by
 rw[Bool.eq_iff_iff,beq_iff_eq,decide_eq_true_eq,ByteArray.toList_eq,ByteArray.toList_eq,eZ,eZ];exact ⟨vD,fun h=>by rw[h]⟩
theorem AY (n:Nat):TX ((n:Int):Rat)=⟨(aU n).toArray⟩:=by unfold TX;rw[i7,fC]
theorem oE {d:Nat} {p:Rat} (hp:DS d p) (hd:d≤40000) (W:World):Calls prog 52 #[.string (TX p)] W fun e w'=>e=.returned (.bool true)∧Below W.heap.size W w':=by
 have h:=kg (TX p) W (by have:=DS.sz hp;omega);rw[dP] at h;exact h
theorem vY {d:Nat} {p:Rat} (hp:DS d p) (hd:d≤40000) (W:World):Calls prog 43 #[.string (TX p)] W fun e w'=>e=.returned (.bool (decide (p.den=1)))∧Below W.heap.size W w':=by
 have h:=kh (TX p) W (by have:=DS.sz hp;omega);unfold isI at h;rw[dP] at h;exact h
theorem mS {d:Nat} {p:Rat} (hp:DS d p) (hd:d≤40000) (W:World):Calls prog 71 #[.string (TX p)] W fun e w'=>e=.returned (.int .i64 (dd p.num))∧Below W.heap.size W w':=by
 have h:=lz (TX p) W (by have:=DS.sz hp;omega);unfold sgO at h;rw[dP] at h;exact h
theorem zJ {d:Nat} {p:Rat} (hp:DS d p) (hd:d≤40000) (W:World):Calls prog 108 #[.string (TX p)] W (ig (-p) W):=by
 have h:=mR (TX p) W (by have:=DS.sz hp;omega);rw[eZ,xw] at h;exact h
theorem zK {d e:Nat} {p q:Rat} (hp:DS d p) (hq:DS e q) (hd:d≤9000) (he:e≤9000) (W:World):Calls prog 41 #[.string (TX p),.string (TX q)] W (ig (p*q) W):=by
 have h:=tL (TX p) (TX q) W (by have:=DS.sz hp;omega) (by have:=DS.sz hq;omega);rw[eZ,eZ,mw] at h;exact h
theorem zL {d e:Nat} {p q:Rat} (hp:DS d p) (hq:DS e q) (hd:d≤9000) (he:e≤9000) (h0:q.num≠0) (W:World):Calls prog 98 #[.string (TX p),.string (TX q)] W (ig (p / q) W):=by
 have h:=tM (TX p) (TX q) W (by have:=DS.sz hp;omega) (by have:=DS.sz hq;omega);rw[eZ,eZ,mw] at h;unfold lE at h;rw[aB h0] at h;exact h
end Go.Proofs.YtpkfnnkbfphfbaaGreatDoor
namespace Nmx
theorem zM (a b:List UInt8):on2 jD a (txt ((bp b).bind fun x=>some (-x)))=on2 AQ a b:=by
 unfold on2;cases hb:bp b with
 | none=>
   show txt ((bp a).bind fun x=>(bp []).bind fun y=>jD x y)=_;rw[qK];cases bp a <;> rfl
 | some q=>
   show txt ((bp a).bind fun x=>(bp (bB (-q))).bind fun y=>jD x y)=_;rw[dX];cases bp a with
   | none=>rfl
   | some p=>
     show txt (some (p+ -q))=txt (some (p-q));rw[Rat.sub_eq_add_neg]
end Nmx
namespace Go.Proofs.YtpkfnnkbfphfbaaGreatDoor
open Go.RowKit Nmx Go.Proofs.Tryz
open Rf
theorem rB (l:List UInt8):(on1 tK l).length≤2*l.length+4:=by
 cases h:bp l with
 | none=>rw[qP h];simp
 | some q=>
   rw[qO h];exact Nmx.DS.len (Bj h).neg
theorem tO (s t:ByteArray) (w:World) (hs:s.size≤20000) (ht:t.size≤9000):Calls prog 72 #[.string s,.string t] w fun e w'=>e=.returned (.string ⟨(on2 AQ s.data.toList t.data.toList).toArray⟩)∧Below w.heap.size w w':=by
    have h1:=fun W=>mR t W (by omega)
    have hl:=rB t.data.toList;rw[size_data] at hl;have h2:=fun W=>tN s ⟨(on1 tK t.data.toList).toArray⟩ W hs (by rw[sz_txt];omega)
    have HI:Hid (on2 jD s.data.toList (⟨(on1 tK t.data.toList).toArray⟩:ByteArray).data.toList=on2 AQ s.data.toList t.data.toList):=hid (zM _ _);clear hl;generalize (⟨(on1 tK t.data.toList).toArray⟩:ByteArray)=tn at *
    go_enter func72,ntmps72
    go_wp2_with fail
    refine (h1 _).mono ?_;rintro e w1 ⟨rfl,hb1⟩;have HB1:=hid hb1;clear hb1
    go_wp2_with fail
    refine (h2 _).mono ?_;rintro e w2 ⟨rfl,hb2⟩;have HB2:=hid (HB1.out.trans (hb2.mono HB1.out.size));clear hb2
    go_wp2
    go_ret
    exact ⟨bK (by rw[HI.out]),HB2.out⟩
theorem zN {d e:Nat} {p q:Rat} (hp:DS d p) (hq:DS e q) (hd:d≤9000) (he:e≤4000) (W:World):Calls prog 72 #[.string (TX p),.string (TX q)] W (ig (p-q) W):=by
 have h:=tO (TX p) (TX q) W (by have:=DS.sz hp;omega) (by have:=DS.sz hq;omega);rw[eZ,eZ,mw] at h;exact h
end Go.Proofs.YtpkfnnkbfphfbaaGreatDoor

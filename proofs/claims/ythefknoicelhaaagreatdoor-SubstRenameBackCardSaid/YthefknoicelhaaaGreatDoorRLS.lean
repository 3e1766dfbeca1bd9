import Derived.Test.YthefknoicelhaaaGreatDoorFUQ
import Derived.Test.YthefknoicelhaaaGreatDoorFLS
set_option maxRecDepth 100000
set_option maxHeartbeats 40000000
open Go.Lib (hid)
namespace Nmx
def txt:Option Rat→List UInt8
 | some q=>textQ q
 | none=>[]
def on2 (f:Rat→Rat→Option Rat) (a b:List UInt8):List UInt8:=txt ((ratF a).bind fun x=>(ratF b).bind fun y=>f x y)
theorem dI (s:Nat):(dg (s % 10)).toNat-48=s % 10:=by rw[dg_toNat (Nat.mod_lt _ (by omega))];omega
def vt:List Nat→Nat
 | []=>0
 | x::r=>x*10 ^ r.length+vt r
theorem dt (L:List Nat) (k x:Nat) (hk:k<L.length):vt (L.set k (L.getD k 0+x))=vt L+x*10 ^ (L.length-1-k):=by
 induction L generalizing k with
 | nil=>simp at hk
 | cons y r ih=>
   cases k with
   | zero=>
     rw[List.set_cons_zero,vt,vt,List.getD_cons_zero,List.length_cons,Nat.add_sub_cancel,Nat.sub_zero,Nat.add_mul]
     omega
   | succ k=>
     rw[List.length_cons] at hk;rw[List.set_cons_succ,vt,vt,List.getD_cons_succ,ih k (by omega),List.length_set,List.length_cons,show r.length+1-1-(k+1)=r.length-1-k by omega]
     omega
theorem cf (n:Nat):vt (List.replicate n 0)=0:=by
 induction n with
 | zero=>rfl
 | succ n ih=>rw[List.replicate_succ,vt,ih];omega
theorem cJ (L:List Nat) (k:Nat) (hk:k<L.length):vt (L.drop k)=L.getD k 0*10 ^ (L.length-1-k)+vt (L.drop (k+1)):=by
 rw[List.drop_eq_getElem_cons hk,vt,List.length_drop,List.getD_eq_getElem?_getD,List.getElem?_eq_getElem hk,Option.getD_some,show L.length-(k+1)=L.length-1-k by omega]
theorem cg {k n:Nat} (h:k<n):10 ^ (n-k)=10*10 ^ (n-1-k):=by rw[←Nat.pow_succ'];congr 1;omega
structure MulD (a b:List UInt8) (L:List Nat) (i j:Nat):Prop where
 len:L.length=a.length+b.length
 le:∀k,L.getD k 0≤81*(i*b.length+j)
 eq:vt L=dv (a.take i)*10 ^ (a.length-i)*dv b+fd a i*10 ^ (a.length-1-i)*(dv (b.take j)*10 ^ (b.length-j))
theorem MulD.start (a b:List UInt8):MulD a b (List.replicate (a.length+b.length) 0) 0 0:=
 ⟨List.length_replicate,fun k=>by rw[List.getD_eq_getElem?_getD,List.getElem?_replicate];split <;> simp,by rw[cf,List.take_zero,List.take_zero,dv_nil];omega⟩
theorem MulD.step {a b:List UInt8} {L:List Nat} {i j:Nat} (h:MulD a b L i j) (ha:a.all isD=true) (hb:b.all isD=true) (hi:i<a.length) (hj:j<b.length):
    MulD a b (L.set (i+j+1) (L.getD (i+j+1) 0+fd a i*fd b j)) i (j+1):=by
 refine ⟨by rw[List.length_set];exact h.len,fun k=>?_,?_⟩
 · have h1:=h.le k;have h2:=h.le (i+j+1);have h3:fd a i*fd b j≤9*9:=Nat.mul_le_mul (by have:=fd_lt a ha i;omega) (by have:=fd_lt b hb j;omega);rw[List.getD_eq_getElem?_getD,List.getElem?_set]
   split
   · split
     · rw[Option.getD_some];omega
     · simp
   · rw[←List.getD_eq_getElem?_getD];omega
 · rw[dt _ _ _ (by rw[h.len];omega),h.eq,dv_take b j hj,h.len];have e1:10 ^ (a.length+b.length-1-(i+j+1))=10 ^ (a.length-1-i)*10 ^ (b.length-1-j):=by rw[←Nat.pow_add];congr 1;omega
   rw[e1,cg hj,show b.length-(j+1)=b.length-1-j by omega];generalize 10 ^ (a.length-1-i)=p;generalize 10 ^ (b.length-1-j)=r;generalize fd a i=x;generalize fd b j=y;generalize dv (b.take j)=z;generalize dv (a.take i)*10 ^ (a.length-i)*dv b=t
   grind
theorem MulD.next {a b:List UInt8} {L:List Nat} {i:Nat} (h:MulD a b L i b.length) (hi:i<a.length):MulD a b L (i+1) 0:=by
 refine ⟨h.len,fun k=>by have:=h.le k;rw[Nat.add_mul];omega,?_⟩;rw[h.eq,dv_take a i hi,List.take_length,Nat.sub_self,List.take_zero,dv_nil,cg hi,show a.length-(i+1)=a.length-1-i by omega];generalize 10 ^ (a.length-1-i)=p
 grind
theorem MulD.done {a b:List UInt8} {L:List Nat} (h:MulD a b L a.length 0):vt L=dv a*dv b:=by
 rw[h.eq,List.take_length,Nat.sub_self,List.take_zero,dv_nil];grind
structure CarD (L:List Nat) (q:List UInt8) (n M i c:Nat):Prop where
 len:q.length=n
 dig:Dt q i
 c1:c≤M
 eq:lo q i+c*10 ^ i=vt (L.drop (n-i))
theorem CarD.start (L:List Nat) (q:List UInt8) (n M:Nat) (hq:q.length=n) (hL:L.length=n):CarD L q n M 0 0:=
 ⟨hq,Dt.zero q,by omega,by rw[lo_zero,Nat.sub_zero,List.drop_of_length_le (by omega)];simp[vt]⟩
theorem CarD.step {L:List Nat} {q:List UInt8} {n M i c:Nat} (h:CarD L q n M i c) (hL:L.length=n) (hM:∀k,L.getD k 0≤M) (hi:i<n) (s:Nat) (hs:s=L.getD (n-1-i) 0+c):
    CarD L (q.set (n-1-i) (dg (s % 10))) n M (i+1) (s / 10):=by
 have h3:=h.c1;have h4:=h.eq;have h6:=hM (n-1-i);refine ⟨by rw[List.length_set];exact h.len,h.dig.set h.len hi (dg_isD (Nat.mod_lt _ (by omega))),by omega,?_⟩;rw[lo_set _ _ _ _ h.len hi,dI,Nat.pow_succ,show n-(i+1)=n-1-i by omega,cJ L _ (by omega),show n-1-i+1=n-i by omega,←h4,hL,show n-1-(n-1-i)=i by omega];have h5:s=s % 10+s / 10*10:=by omega
 generalize s % 10=u at *;generalize s / 10=v at *;subst hs;generalize 10 ^ i=p at *;generalize L.getD (n-1-i) 0=x at *
 grind
theorem CarD.done {L:List Nat} {q:List UInt8} {n M c:Nat} (h:CarD L q n M n c) (h0:0<n) (hlt:vt L<10 ^ n):trimF q=decN (vt L):=by
 have hall:=h.dig.all h.len;have h4:=h.eq;rw[lo_all q n (by rw[h.len];exact Nat.le_refl _),Nat.sub_self,List.drop_zero] at h4;rw[trimF_decN q hall (fun e=>by have:=h.len;rw[e] at this;simp at this;omega)]
 have hc:c=0:=by
  rcases Nat.eq_zero_or_pos c with hc | hc
  · exact hc
  · have:1*10 ^ n≤c*10 ^ n:=Nat.mul_le_mul_right _ hc
    omega
 subst hc;rw[←h4,Nat.zero_mul,Nat.add_zero]
theorem bk (x y:Rat) (h:y.num≠0):redQ (decide (x.num<0) !=decide (y.num<0)) (x.num.natAbs*y.den) (x.den*y.num.natAbs)=x / y:=by
 have hy:y≠0:=fun e=>h (by rw[e];rfl)
 have e:x / y=Rat.divInt (x.num*y.den) (x.den*y.num):=by
  rw[Rat.div_def]
  have h1:y⁻¹=Rat.divInt y.den y.num:=by
   conv=>lhs;rw[←Rat.num_divInt_den y]
   rw[Rat.inv_divInt]
  rw[h1]
  conv=>lhs;rw[←Rat.num_divInt_den x]
  rw[Rat.divInt_mul_divInt]
 rw[e];unfold redQ
 by_cases hn:y.num<0
 · have e2:(x.den:Int)*y.num= -((x.den*y.num.natAbs:Nat):Int):=by rw[Int.natCast_mul,←Int.mul_neg];congr 1;omega
   rw[e2,Rat.divInt_neg',decide_eq_true hn]
   congr 1
   have h1:=neg_mul_nat (decide (x.num<0)) x.num.natAbs y.den;rw[sgn_of] at h1;rw[←h1];cases decide (x.num<0) <;> simp[sgn]
 · have e2:(x.den:Int)*y.num=((x.den*y.num.natAbs:Nat):Int):=by rw[Int.natCast_mul];congr 1;omega
   rw[e2,decide_eq_false hn,Bool.bne_false,neg_mul_nat,sgn_of]
theorem DS.div {d e:Nat} {p q:Rat} (hp:DS d p) (hq:DS e q) (h0:q.num≠0):DS (d+e) (p / q):=by
 rw[←bk p q h0];exact DS.red (ten_mul hp.1 hq.2) (Nat.mul_pos p.den_pos (by omega)) (ten_mul_le hp.2 (Nat.le_of_lt hq.1))
def bG (x y:Rat):Option Rat:=some (x*y)
def aG (x y:Rat):Option Rat:=if y.num=0 then none else some (x / y)
theorem bl (f:Rat→Rat→Option Rat) (p q:Rat):on2 f (textQ p) (textQ q)=txt (f p q):=by unfold on2;rw[ratF_text,ratF_text];rfl
theorem aN {f:Rat→Rat→Option Rat} {a b:List UInt8} {p q:Rat} (hp:ratF a=some p) (hq:ratF b=some q):on2 f a b=txt (f p q):=by unfold on2;rw[hp,hq];rfl
theorem bm {f:Rat→Rat→Option Rat} {a b:List UInt8} (hp:ratF a=none):on2 f a b=[]:=by unfold on2;rw[hp];rfl
theorem aV {f:Rat→Rat→Option Rat} {a b:List UInt8} (hq:ratF b=none):on2 f a b=[]:=by unfold on2;rw[hq];cases ratF a <;> rfl
end Nmx
namespace Go.Proofs.YthefknoicelhaaaGreatDoor
open Go.RowKit Nmx Go.Proofs.Tryz
open Rf
def aH (l:List Nat):List Value:=l.map fun (n:Nat)=>Value.int .i64 (n:Int)
theorem ci (l:List Nat) (i x:Nat):(aH l).toArray.setIfInBounds i (.int .i64 (x:Int))=(aH (l.set i x)).toArray:=by
 simp[aH,List.map_set]
theorem cK (l:List Nat) (i:Nat) (hi:i<l.length):(aH l)[i]? =some (.int .i64 ((l.getD i 0:Nat):Int)):=by
 simp[aH,List.getD_eq_getElem?_getD,hi]
def IR (w:World) (g:Nat) (l:List Nat):Prop:=w.heap[g]? =some (.cells (aH l).toArray 3 (0,0))
theorem IR.set {w:World} {g:Nat} {l:List Nat} (h:IR w g l) (i x:Nat) (z:Int) (hz:z=x):IR (w.setCell ⟨g,i,none⟩ (.int .i64 z)) g (l.set i x):=by
 subst hz;unfold IR;rw[←ci];exact heap_set h i _
theorem IR.cell {w:World} {g:Nat} {l:List Nat} (h:IR w g l) (i:Nat) (hi:i<l.length):w.cell? ⟨g,i,none⟩=some (.int .i64 ((l.getD i 0:Nat):Int)):=by
 rw[heap_cell h i];simpa using cK l i hi
theorem IR.fz {w:World} {g:Nat} {l:List Nat} (h:IR w g l) (i:Nat):w.frozen? ⟨g,i,none⟩=false:=heap_fz h i
theorem IR.new (w:World) (l:List Nat):IR (w.alloc (.cells (aH l).toArray 3)) w.heap.size l:=heap_alloc_new w _
theorem IR.far {w w':World} {g:Nat} {l:List Nat} (h:IR w g l) (hb:Below w.heap.size w w'):IR w' g l:=(hb.block g (lt_of_heap h)).trans h
theorem cj (n:Nat):madeCells (Value.cells (.int .i64 0)) (n*1)=(aH (List.replicate n 0)).toArray:=by
 apply Array.ext
 · simp[madeCells,aH]
 · intro i h1 h2
   simp[madeCells,aH,Value.cells,Nat.mod_one]
theorem cL (n:Nat) (hn:n≤1000000000) (z:Int) (hz:z=n) (W:World):
    (Instr.makeSlice 23 (.int .i64 z) (.int .i64 z)).run prog W=.ok (.slice (some ⟨W.heap.size,0,none⟩) n n) (W.alloc (.cells (aH (List.replicate n 0)).toArray 3)):=by
 subst hz;obtain ⟨i0,hi,hz0,hz1,hz2⟩:=info_parts infoInt;have hr:=run_make (P:=prog) W 23 3 i0 _ underlying23 hi hz0 .i64 .i64 n n (by omega) (by omega) (by rw[hz2];omega) (by omega);rw[hz1,Int.toNat_natCast,cj] at hr;exact hr
theorem aj (s t:ByteArray) (x y:Nat) (w:World) (hs:s.data.toList=decN x) (ht:t.data.toList=decN y) (h1:s.size≤100000) (h2:t.size≤100000):Calls prog 126 #[.string s,.string t] w fun e w'=>e=.returned (.string ⟨(decN (x*y)).toArray⟩)∧Below w.heap.size w w':=by
 have HDA:Hid (s.data.toList.all isD=true):=hid (by rw[hs];exact decN_digits x);have HDB:Hid (t.data.toList.all isD=true):=hid (by rw[ht];exact decN_digits y);have HV:Hid (dv s.data.toList=x∧dv t.data.toList=y):=hid (by rw[hs,ht,dv_decN,dv_decN];exact ⟨rfl,rfl⟩);have h0:0<s.size:=by rw[←size_data,hs];exact decN_len_pos x
 clear hs ht;have hls:=size_data s;have hlt:=size_data t;have HLS:=hid hls;have HLT:=hid hlt;have HS0:=hid (MulD.start s.data.toList t.data.toList);rw[hls,hlt] at HS0;obtain ⟨n,hn⟩:∃n,s.size+t.size=n:=⟨_,rfl⟩
 have hni:(s.size:Int)+(t.size:Int)=(n:Int):=by omega
 have hn2:n≤200000:=by omega
 have HN:=hid hn;rw[hn] at HS0;clear hls hlt hn;have hmk:=cL n (by omega) (n:Int) rfl;have hmr:=mk_row n (by omega) (n:Int) rfl;have HST:=hid (IR.new w (List.replicate n 0));have HBE:Hid (Below w.heap.size w (w.alloc (.cells (aH (List.replicate n 0)).toArray 3))):=hid ((Below.refl _ _).alloc (Nat.le_refl _) _)
 go_enter func126,ntmps126
 go_wp2
 go_loopw [6] (fun i wr=>∃(k:Nat) (L:List Nat),k≤s.size∧i=.int .i64 k∧MulD s.data.toList t.data.toList L k 0∧IR wr w.heap.size L∧Below w.heap.size w wr) (fun i _=>s.size-(intOf i).toNat)
 case atStart=>exact ⟨0,_,Nat.zero_le _,rfl,HS0.out,HST.out,HBE.out⟩
 case round=>
  obtain ⟨k,L,hk,rfl,hmu,hir,hbel⟩:=hrel;have HR:=hid hmu;have HW:=hid hir;have HBl:=hid hbel;clear hmu hir hbel HST HBE HS0
  by_cases hlt:k<s.size
  · have hda:=dig_get s HDA.out k hlt;have HDI:=hid (fd_get s k hlt)
    go_wp2
    go_loopw [7] (fun i wr=>∃(j:Nat) (L:List Nat),j≤t.size∧i=.int .i64 j∧MulD s.data.toList t.data.toList L k j∧IR wr w.heap.size L∧Below w.heap.size w wr) (fun i _=>t.size-(intOf i).toNat)
    case atStart=>exact ⟨0,_,Nat.zero_le _,rfl,HR.out,HW.out,HBl.out⟩
    case round=>
     clear HR HW HBl;obtain ⟨j,L,hj,rfl,hmu,hir,hbel⟩:=hrel;have HR:=hid hmu;have HW:=hid hir;have HBl:=hid hbel;have hln:L.length=n:=by rw[hmu.len,HLS.out,HLT.out,HN.out]
     have hle:=hmu.le;rw[HLT.out] at hle;clear hmu hir hbel
     by_cases hjt:j<t.size
     · have hdb:=dig_get t HDB.out j hjt;have HDJ:=hid (fd_get t j hjt);have hnn:=HN.out;have hcw:=HW.out.cell (k+j+1) (by omega);have hfw:=HW.out.fz (k+j+1);have HSP:=hid (HR.out.step HDA.out HDB.out (by rw[HLS.out];exact hlt) (by rw[HLT.out];exact hjt));have hbd:=hle (k+j+1);have hkt:k*t.size≤100000*100000:=Nat.mul_le_mul (by omega) h2;have q0:(0:Int)≤(k:Int)+(j:Int)+1:=by omega
       have q1:((k:Int)+(j:Int)+1).toNat=k+j+1:=by omega
       have q2:(k:Int)+(j:Int)+1<(n:Int):=by omega
       have HMUL:Hid (((s[k].toNat:Int)-48)*((t[j].toNat:Int)-48)=((fd s.data.toList k*fd t.data.toList j:Nat):Int)):=hid (by
        rw[HDI.out,HDJ.out,Int.natCast_mul];congr 1 <;> omega)
       have hm81:fd s.data.toList k*fd t.data.toList j≤9*9:=Nat.mul_le_mul (by have:=HDI.out;omega) (by have:=HDJ.out;omega);generalize fd s.data.toList k*fd t.data.toList j=p at *;generalize L.getD (k+j+1) 0=z at *;have hz1:(z:Int)≤1000000000000:=by omega
       have hz0:(0:Int)≤(z:Int):=by omega
       have hm:=HMUL.out;have hw1:IntKind.i64.wrap (p:Int)=(p:Int):=by rw[IntKind.wrap_i64];omega
       have hw2:IntKind.i64.wrap ((z:Int)+(p:Int))=(z:Int)+(p:Int):=by rw[IntKind.wrap_i64];omega
       have hw3:IntKind.i64.wrap ((k:Int)+(j:Int))=(k:Int)+(j:Int):=by rw[IntKind.wrap_i64];omega
       have hw4:IntKind.i64.wrap ((k:Int)+(j:Int)+1)=(k:Int)+(j:Int)+1:=by rw[IntKind.wrap_i64];omega
       have hw5:IntKind.u8.wrap ((s[k].toNat:Int)-48)=(s[k].toNat:Int)-48:=by rw[IntKind.wrap_u8];omega
       have hw6:IntKind.u8.wrap ((t[j].toNat:Int)-48)=(t[j].toNat:Int)-48:=by rw[IntKind.wrap_u8];omega
       have hw7:IntKind.i64.wrap ((s[k].toNat:Int)-48)=(s[k].toNat:Int)-48:=by rw[IntKind.wrap_i64];omega
       have hw8:IntKind.i64.wrap ((t[j].toNat:Int)-48)=(t[j].toNat:Int)-48:=by rw[IntKind.wrap_i64];omega
       clear hle hkt hbd hnn
       go_wp2
       go_still_tail 20,(by kernel_rfl)
       change wpList _ _ _ _ _ wr.drew;have HW2:Hid (IR wr.drew w.heap.size L):=hid HW.out;have HB2:Hid (Below w.heap.size w wr.drew):=hid HBl.out.drew;have hcw2:wr.drew.cell? ⟨w.heap.size,k+j+1,none⟩=some (.int .i64 (z:Int)):=hcw;have hfw2:wr.drew.frozen? ⟨w.heap.size,k+j+1,none⟩=false:=hfw;generalize wr.drew=w2 at *
       go_wp2
       exact ⟨⟨j+1,_,by omega,by go_num,HSP.out,HW2.out.set _ _ _ (by omega),HB2.out.setCell (Nat.le_refl _) _⟩,by simp[intOf];omega⟩
     · obtain rfl:j=t.size:=by omega
       have HNX:=hid (MulD.next (by have:=HR.out;rwa [←HLT.out] at this) (by rw[HLS.out];exact hlt))
       go_wp2
       go_roundw
       case rel=>exact ⟨k+1,_,by omega,by go_num,HNX.out,HW.out,HBl.out⟩
       case measure=>simp[intOf];omega
  · obtain rfl:k=s.size:=by omega
    have hln:L.length=n:=by rw[HR.out.len,HLS.out,HLT.out,HN.out]
    have hle:=HR.out.le;rw[HLT.out,Nat.add_zero] at hle
    have HVT:Hid (vt L=x*y):=hid (by
     have h:=HR.out;rw[←HLS.out] at h
     rw[h.done,HV.out.1,HV.out.2])
    have HLT10:Hid (vt L<10 ^ n):=hid (by
     rw[HVT.out,←HV.out.1,←HV.out.2,←HN.out,Nat.pow_add,←HLS.out,←HLT.out];have h1:=dv_lt _ HDA.out;have h2:=dv_lt _ HDB.out;rcases Nat.eq_zero_or_pos (dv t.data.toList) with h | h
     · rw[h,Nat.mul_zero];exact Nat.mul_pos (Nat.pow_pos (by omega)) (Nat.pow_pos (by omega))
     · exact Nat.mul_lt_mul_of_lt_of_le h1 (Nat.le_of_lt h2) (Nat.pow_pos (by omega)))
    have hst:s.size*t.size≤100000*100000:=Nat.mul_le_mul h1 h2;obtain ⟨M,hM⟩:∃M,81*(s.size*t.size)=M:=⟨_,rfl⟩
    rw[hM] at hle;have hM2:M≤810000000000:=by omega
    have HLE:=hid hle;have hn0:0<n:=by have:=HN.out;omega
    have hsz:=lt_of_heap HW.out;have HBR:=hid (BR.new wr (List.replicate n 0));have HBA:Hid (Below wr.heap.size wr (wr.alloc (.cells (bcs (List.replicate n 0)).toArray 5))):=hid ((Below.refl _ _).alloc (Nat.le_refl _) _);have HC0:=hid (CarD.start L (List.replicate n 0) n M List.length_replicate hln);clear hle hst hM HR;obtain ⟨wo,rfl⟩:∃wo:World,wo=wr:=⟨_,rfl⟩
    go_wp2
    go_loopw [9,10] (fun c i wr=>∃(m cc:Nat) (q:List UInt8),m≤n∧i=.int .i64 ((n:Int)-1-m)∧c=.int .i64 cc∧CarD L q n M m cc∧BR wr wo.heap.size q∧Below wo.heap.size wo wr) (fun _ i _=>(intOf i+1).toNat)
    case atStart=>exact ⟨0,0,_,Nat.zero_le _,by simp,rfl,HC0.out,HBR.out,HBA.out⟩
    case round=>
     clear HC0 HBR HBA;obtain ⟨m,cc,q,hm,rfl,rfl,hcar,hbr,hbel⟩:=hrel;have HR:=hid hcar;have HB:=hid hbr;have HBb:=hid hbel;have hql:=hcar.len;have hc1:=hcar.c1;clear hcar hbr hbel
     by_cases hmn:m<n
     · have hge:(0:Int)≤(n:Int)-1-(m:Int):=by omega
       have p1:((n:Int)-1-(m:Int)).toNat=n-1-m:=by omega
       have p2:(n:Int)-1-(m:Int)<(n:Int):=by omega
       have hcl:=(HW.out.far HBb.out).cell (n-1-m) (by omega);have hcw:=HB.out.cell (n-1-m) (by omega);have hfw:=HB.out.fz (n-1-m);have HSP:Hid (∀u,u=L.getD (n-1-m) 0+cc→CarD L (q.set (n-1-m) (dg (u % 10))) n M (m+1) (u / 10)):=hid (fun u hu=>HR.out.step hln HLE.out hmn u hu);have hv:=HLE.out (n-1-m);generalize q.getD (n-1-m) 0=z at *;generalize L.getD (n-1-m) 0=v at *;obtain ⟨u,hu⟩:∃u,v+cc=u:=⟨_,rfl⟩
       have hui:(v:Int)+(cc:Int)=(u:Int):=by omega
       have HST:=hid (HSP.out u hu.symm);have HDG:Hid ((48+(u:Int) % 10)=((dg (u % 10)).toNat:Int)):=hid (by rw[dg_toNat (Nat.mod_lt _ (by omega))];omega);have hu1:u≤2000000000000:=by omega
       clear hu HSP
       go_wp2
       exact ⟨⟨m+1,u / 10,q.set (n-1-m) (dg (u % 10)),by omega,by congr 1;omega,by go_num,HST.out,HB.out.set _ _ _ HDG.out,HBb.out.setCell (Nat.le_refl _) _⟩,by simp[intOf];omega⟩
     · obtain rfl:m=n:=by omega
       have hneg:¬(0:Int)≤(m:Int)-1-(m:Int):=by omega
       have HD:Hid (trimF q=decN (x*y)):=hid (by rw[HR.out.done hn0 HLT10.out,HVT.out]);have hcv:=conv_row HB.out m hql.symm;have htr:=refTrim_any ⟨q.toArray⟩ wr (by rw[sz_txt];omega);rw[show (⟨q.toArray⟩:ByteArray).data.toList=q from rfl,HD.out] at htr
       go_wp2_with fail
       refine htr.mono ?_;rintro e w1 ⟨rfl,hb1⟩;have HB1:=hid (HBl.out.trans ((HBb.out.trans (hb1.mono HBb.out.size)).mono HBl.out.size));clear hb1 htr hcv
       go_wp2
       go_ret
       exact ⟨rfl,HB1.out⟩
structure TwoP (w wx:World) (G H:Nat) (n1:Bool) (s1 d1:ByteArray) (n2:Bool) (s2 d2:ByteArray):Prop where
 ha:wx.heap[G]? =some (.cells #[.bool n1,.string s1,.string d1] 135 (0,0))
 hb:wx.heap[H]? =some (.cells #[.bool n2,.string s2,.string d2] 135 (0,0))
 bel:Below w.heap.size w wx
theorem TwoP.far {w wx w1:World} {G H:Nat} {n1:Bool} {s1 d1:ByteArray} {n2:Bool} {s2 d2:ByteArray} (h:TwoP w wx G H n1 s1 d1 n2 s2 d2) (hb:Below wx.heap.size wx w1):TwoP w w1 G H n1 s1 d1 n2 s2 d2:=
 ⟨(hb.block _ (lt_of_heap h.ha)).trans h.ha,(hb.block _ (lt_of_heap h.hb)).trans h.hb,h.bel.trans (hb.mono h.bel.size)⟩
theorem TwoP.drewN {w wx:World} {G H:Nat} {n1:Bool} {s1 d1:ByteArray} {n2:Bool} {s2 d2:ByteArray} (h:TwoP w wx G H n1 s1 d1 n2 s2 d2) (n:Nat):TwoP w (wx.drewN n) G H n1 s1 d1 n2 s2 d2:=⟨h.ha,h.hb,below_drewN h.bel n⟩
theorem TwoP.cells {w wx:World} {G H:Nat} {n1:Bool} {s1 d1:ByteArray} {n2:Bool} {s2 d2:ByteArray} (h:TwoP w wx G H n1 s1 d1 n2 s2 d2):wx.cell? ⟨G,0,none⟩=some (.bool n1)∧wx.cell? ⟨G,1,none⟩=some (.string s1)∧wx.cell? ⟨G,2,none⟩=some (.string d1)∧wx.cell? ⟨H,0,none⟩=some (.bool n2)∧wx.cell? ⟨H,1,none⟩=some (.string s2)∧wx.cell? ⟨H,2,none⟩=some (.string d2):=
 ⟨heap_cell h.ha 0,heap_cell h.ha 1,heap_cell h.ha 2,heap_cell h.hb 0,heap_cell h.hb 1,heap_cell h.hb 2⟩
theorem TwoP.new {w w1 w2:World} {n1:Bool} {s1 d1:ByteArray} {n2:Bool} {s2 d2:ByteArray} (h1:Below w.heap.size w w1)
    (h2:Below (w1.alloc (.cells #[.bool n1,.string s1,.string d1] 135)).heap.size (w1.alloc (.cells #[.bool n1,.string s1,.string d1] 135)) w2):
    TwoP w (w2.alloc (.cells #[.bool n2,.string s2,.string d2] 135)) w1.heap.size w2.heap.size n1 s1 d1 n2 s2 d2:=by
 have h3:=h1.alloc h1.size (.cells #[.bool n1,.string s1,.string d1] 135);have h4:=h3.trans (h2.mono h3.size);have h5:=(h2.block _ (lt_of_heap (heap_alloc_new w1 _))).trans (heap_alloc_new w1 (.cells #[.bool n1,.string s1,.string d1] 135));exact ⟨(Below.heap_alloc w2 _ _ (lt_of_heap h5)).trans h5,heap_alloc_new w2 _,h4.alloc h4.size _⟩
theorem am (x y:Nat):(decN (x*y)).length≤(decN x).length+(decN y).length:=by
 refine decN_len_le (by have:=decN_len_pos x;omega) ?_;rw[Nat.pow_add];exact Nat.mul_lt_mul_of_lt_of_lt (dec_lt x) (dec_lt y)
theorem bn (s t:ByteArray) (w:World) (hs:s.size≤20000) (ht:t.size≤20000) (hq:ratF s.data.toList=none):Calls prog 110 #[.string s,.string t] w fun e w'=>e=.returned (.string ⟨(on2 bG s.data.toList t.data.toList).toArray⟩)∧Below w.heap.size w w':=by
 have hp:=parseNone s (by omega) hq w;have HI:=hid (bm (f:=bG) (b:=t.data.toList) hq);cases hr:ratF t.data.toList with
 | none=>
   have hr:=fun W=>parseNone t (by omega) hr W
   clear hq
   go_enter func110,ntmps110
   go_wp2_with fail
   refine hp.mono ?_;rintro e w1 ⟨rfl,hb1⟩;have HB:=hid (hb1.alloc hb1.size (.cells #[.bool false,.string ⟨#[]⟩,.string ⟨#[]⟩] 135));clear hb1 hp
   go_wp2_with fail
   refine (hr _).mono ?_;rintro e w2 ⟨rfl,hb2⟩;have HB2:=hid (HB.out.trans (hb2.mono HB.out.size));clear hb2 hr
   go_wp2
   go_ret
   exact ⟨ret_str (by rw[HI.out]),HB2.out.alloc HB2.out.size _⟩
 | some q=>
   obtain ⟨n2,s2,d2,-,-,-,hr⟩:=parseSome t (by omega) hr;clear hq
   go_enter func110,ntmps110
   go_wp2_with fail
   refine hp.mono ?_;rintro e w1 ⟨rfl,hb1⟩;have HB:=hid (hb1.alloc hb1.size (.cells #[.bool false,.string ⟨#[]⟩,.string ⟨#[]⟩] 135));clear hb1 hp
   go_wp2_with fail
   refine (hr _).mono ?_;rintro e w2 ⟨rfl,hb2⟩;have HB2:=hid (HB.out.trans (hb2.mono HB.out.size));clear hb2 hr
   go_wp2
   go_ret
   exact ⟨ret_str (by rw[HI.out]),HB2.out.alloc HB2.out.size _⟩
theorem ba (s t:ByteArray) (w:World) (hs:s.size≤20000) (ht:t.size≤20000) {p:Rat} (hp:ratF s.data.toList=some p) (hq:ratF t.data.toList=none):Calls prog 110 #[.string s,.string t] w fun e w'=>e=.returned (.string ⟨(on2 bG s.data.toList t.data.toList).toArray⟩)∧Below w.heap.size w w':=by
 obtain ⟨n1,s1,d1,-,-,-,hp⟩:=parseSome s (by omega) hp;have hp:=hp w;have hr:=fun W=>parseNone t (by omega) hq W
 have HI:=hid (aV (f:=bG) (a:=s.data.toList) hq);clear hq
 go_enter func110,ntmps110
 go_wp2_with fail
 refine hp.mono ?_;rintro e w1 ⟨rfl,hb1⟩;have HB:=hid (hb1.alloc hb1.size (.cells #[.bool n1,.string s1,.string d1] 135));clear hb1 hp
 go_wp2_with fail
 refine (hr _).mono ?_;rintro e w2 ⟨rfl,hb2⟩;have HB2:=hid (HB.out.trans (hb2.mono HB.out.size));clear hb2 hr
 go_wp2
 go_ret
 exact ⟨ret_str (by rw[HI.out]),HB2.out.alloc HB2.out.size _⟩
theorem bo (s t:ByteArray) (w:World) (hs:s.size≤20000) (ht:t.size≤20000) {p q:Rat} (hp0:ratF s.data.toList=some p) (hq0:ratF t.data.toList=some q):Calls prog 110 #[.string s,.string t] w fun e w'=>e=.returned (.string ⟨(on2 bG s.data.toList t.data.toList).toArray⟩)∧Below w.heap.size w w':=by
 have HI:Hid (on2 bG s.data.toList t.data.toList=textQ (p*q)):=hid (by rw[aN hp0 hq0];rfl);obtain ⟨n1,s1,d1,hP,hs1,hd1,hp⟩:=parseSome s (by omega) hp0;obtain ⟨n2,s2,d2,hQ,hs2,hd2,hr⟩:=parseSome t (by omega) hq0;have hp:=hp w;have hm1:=fun W=>aj s1 s2 _ _ W hP.2.1 hQ.2.1 (by omega) (by omega)
 have hm2:=fun W=>aj d1 d2 _ _ W hP.2.2 hQ.2.2 (by omega) (by omega)
 have l1:(decN (p.num.natAbs*q.num.natAbs)).length≤40000:=Nat.le_trans (am _ _) (by rw[←hP.2.1,←hQ.2.1,size_data,size_data];omega);have l2:(decN (p.den*q.den)).length≤40000:=Nat.le_trans (am _ _) (by rw[←hP.2.2,←hQ.2.2,size_data,size_data];omega);have HRQ:Hid (redQ (n1 !=n2) (p.num.natAbs*q.num.natAbs) (p.den*q.den)=p*q):=hid (by rw[hP.1,hQ.1];exact redQ_mul p q);have hden:0<p.den*q.den:=Nat.mul_pos p.den_pos q.den_pos;generalize p.num.natAbs*q.num.natAbs=X at *;generalize p.den*q.den=Y at *;have hrd:=fun W=>refReduce_any (n1 !=n2) ⟨(decN X).toArray⟩ ⟨(decN Y).toArray⟩ X Y W rfl rfl (by rw[sz_txt];omega) (by rw[sz_txt];omega) hden
 obtain ⟨m1,m2⟩:=redQ_le (n1 !=n2) X Y hden;rw[HRQ.out] at hrd m1 m2;have htx:=fun W=>refText_any (p*q) W (dec_len_dvd (n:=1000000) (by omega) m1) (dec_len_dvd (n:=1000000) (by omega) m2)
 clear m1 m2 l1 l2 hden hP hQ hp0 hq0 HRQ;unfold ratV at hrd htx;generalize p*q=qq at *;generalize (⟨(decN X).toArray⟩:ByteArray)=px at *;generalize (⟨(decN Y).toArray⟩:ByteArray)=py at *
 go_enter func110,ntmps110
 go_wp2_with fail
 refine hp.mono ?_;rintro e w1 ⟨rfl,hb1⟩;have HB1:=hid hb1;clear hb1 hp
 go_wp2_with fail
 refine (hr _).mono ?_;rintro e w2 ⟨rfl,hb2⟩;have HT:=hid (TwoP.new (n2:=n2) (s2:=s2) (d2:=d2) HB1.out hb2);clear hb2 hr
 go_wp2_with fail
 generalize (w2.alloc (.cells #[.bool n2,.string s2,.string d2] 135))=w3 at *;generalize w1.heap.size=G at *;generalize w2.heap.size=H at *;have K0:=HT.out.cells
 go_region_held3 (fun w'=>w'.cell? ⟨G,0,none⟩=some (.bool n1)∧w'.cell? ⟨G,1,none⟩=some (.string s1)∧w'.cell? ⟨G,2,none⟩=some (.string d1)∧w'.cell? ⟨H,0,none⟩=some (.bool n2)∧w'.cell? ⟨H,1,none⟩=some (.string s2)∧w'.cell? ⟨H,2,none⟩=some (.string d2))
  (first | exact K0 | exact K1 | exact K2 | exact K3 | exact K4 | go_keep)
  (first
    | (go_at_call 126
       first
        | (with_reducible refine (hm1 _).mono ?_
           rintro e w4 ⟨rfl,hb4⟩;have HT1:=hid ((HT.out.drewN _).far hb4)
           have K1:=HT1.out.cells)
        | (with_reducible refine (hm2 _).mono ?_
           rintro e w5 ⟨rfl,hb5⟩;have HT2:=hid (HT1.out.far hb5)
           have K2:=HT2.out.cells))
    | (go_at_call 122
       refine (hrd _).mono ?_;rintro e w6 ⟨rfl,hb6⟩;have HT3:=hid (HT2.out.far hb6)
       have K3:=HT3.out.cells)
    | (go_at_call 123
       refine (htx _).mono ?_;rintro e w7 ⟨rfl,hb7⟩;have HT4:=hid (HT3.out.far hb7)
       have K4:=HT4.out.cells))
 go_wp2
 go_ret
 exact ⟨ret_str (by rw[HI.out]),HT4.out.bel⟩
theorem bH (s t:ByteArray) (w:World) (hs:s.size≤20000) (ht:t.size≤20000):Calls prog 110 #[.string s,.string t] w fun e w'=>e=.returned (.string ⟨(on2 bG s.data.toList t.data.toList).toArray⟩)∧Below w.heap.size w w':=by
 cases hp:ratF s.data.toList with
 | none=>exact bn s t w hs ht hp
 | some p=>
   cases hq:ratF t.data.toList with
   | none=>exact ba s t w hs ht hp hq
   | some q=>
     exact bo s t w hs ht hp hq
theorem bp (s t:ByteArray) (w:World) (hs:s.size≤20000) (ht:t.size≤20000) (hq:ratF s.data.toList=none):Calls prog 111 #[.string s,.string t] w fun e w'=>e=.returned (.string ⟨(on2 aG s.data.toList t.data.toList).toArray⟩)∧Below w.heap.size w w':=by
 have hp:=parseNone s (by omega) hq w;have HI:=hid (bm (f:=aG) (b:=t.data.toList) hq);cases hr:ratF t.data.toList with
 | none=>
   have hr:=fun W=>parseNone t (by omega) hr W
   clear hq
   go_enter func111,ntmps111
   go_wp2_with fail
   refine hp.mono ?_;rintro e w1 ⟨rfl,hb1⟩;have HB:=hid (hb1.alloc hb1.size (.cells #[.bool false,.string ⟨#[]⟩,.string ⟨#[]⟩] 135));clear hb1 hp
   go_wp2_with fail
   refine (hr _).mono ?_;rintro e w2 ⟨rfl,hb2⟩;have HB2:=hid (HB.out.trans (hb2.mono HB.out.size));clear hb2 hr
   go_wp2
   go_ret
   exact ⟨ret_str (by rw[HI.out]),HB2.out.alloc HB2.out.size _⟩
 | some q=>
   obtain ⟨n2,s2,d2,-,-,-,hr⟩:=parseSome t (by omega) hr;clear hq
   go_enter func111,ntmps111
   go_wp2_with fail
   refine hp.mono ?_;rintro e w1 ⟨rfl,hb1⟩;have HB:=hid (hb1.alloc hb1.size (.cells #[.bool false,.string ⟨#[]⟩,.string ⟨#[]⟩] 135));clear hb1 hp
   go_wp2_with fail
   refine (hr _).mono ?_;rintro e w2 ⟨rfl,hb2⟩;have HB2:=hid (HB.out.trans (hb2.mono HB.out.size));clear hb2 hr
   go_wp2
   go_ret
   exact ⟨ret_str (by rw[HI.out]),HB2.out.alloc HB2.out.size _⟩
theorem bb (s t:ByteArray) (w:World) (hs:s.size≤20000) (ht:t.size≤20000) {p:Rat} (hp:ratF s.data.toList=some p) (hq:ratF t.data.toList=none):Calls prog 111 #[.string s,.string t] w fun e w'=>e=.returned (.string ⟨(on2 aG s.data.toList t.data.toList).toArray⟩)∧Below w.heap.size w w':=by
 obtain ⟨n1,s1,d1,-,-,-,hp⟩:=parseSome s (by omega) hp;have hp:=hp w;have hr:=fun W=>parseNone t (by omega) hq W
 have HI:=hid (aV (f:=aG) (a:=s.data.toList) hq);clear hq
 go_enter func111,ntmps111
 go_wp2_with fail
 refine hp.mono ?_;rintro e w1 ⟨rfl,hb1⟩;have HB:=hid (hb1.alloc hb1.size (.cells #[.bool n1,.string s1,.string d1] 135));clear hb1 hp
 go_wp2_with fail
 refine (hr _).mono ?_;rintro e w2 ⟨rfl,hb2⟩;have HB2:=hid (HB.out.trans (hb2.mono HB.out.size));clear hb2 hr
 go_wp2
 go_ret
 exact ⟨ret_str (by rw[HI.out]),HB2.out.alloc HB2.out.size _⟩
theorem bq (s t:ByteArray) (w:World) (hs:s.size≤20000) (ht:t.size≤20000) {p q:Rat} (hp0:ratF s.data.toList=some p) (hq0:ratF t.data.toList=some q) (h0:q.num=0):Calls prog 111 #[.string s,.string t] w fun e w'=>e=.returned (.string ⟨(on2 aG s.data.toList t.data.toList).toArray⟩)∧Below w.heap.size w w':=by
 have HI:Hid (on2 aG s.data.toList t.data.toList=[]):=hid (by rw[aN hp0 hq0];unfold aG;rw[if_pos h0];rfl);obtain ⟨n1,s1,d1,hP,hs1,hd1,hp⟩:=parseSome s (by omega) hp0;obtain ⟨n2,s2,d2,hQ,hs2,hd2,hr⟩:=parseSome t (by omega) hq0;have hp:=hp w;have hz:=hQ.zero;rw[decide_eq_true h0] at hz;clear hP hQ hp0 hq0 h0
 go_enter func111,ntmps111
 go_wp2_with fail
 refine hp.mono ?_;rintro e w1 ⟨rfl,hb1⟩;have HB1:=hid hb1;clear hb1 hp
 go_wp2_with fail
 refine (hr _).mono ?_;rintro e w2 ⟨rfl,hb2⟩;have HT:=hid (TwoP.new (n2:=n2) (s2:=s2) (d2:=d2) HB1.out hb2);clear hb2 hr
 go_wp2
 go_ret
 exact ⟨ret_str (by rw[HI.out]),HT.out.bel⟩
theorem br (s t:ByteArray) (w:World) (hs:s.size≤20000) (ht:t.size≤20000) {p q:Rat} (hp0:ratF s.data.toList=some p) (hq0:ratF t.data.toList=some q) (h0:q.num≠0):Calls prog 111 #[.string s,.string t] w fun e w'=>e=.returned (.string ⟨(on2 aG s.data.toList t.data.toList).toArray⟩)∧Below w.heap.size w w':=by
 have HI:Hid (on2 aG s.data.toList t.data.toList=textQ (p / q)):=hid (by rw[aN hp0 hq0];unfold aG;rw[if_neg h0];rfl);obtain ⟨n1,s1,d1,hP,hs1,hd1,hp⟩:=parseSome s (by omega) hp0;obtain ⟨n2,s2,d2,hQ,hs2,hd2,hr⟩:=parseSome t (by omega) hq0;have hp:=hp w;have hz:=hQ.zero;rw[decide_eq_false h0] at hz;have hm1:=fun W=>aj s1 d2 _ _ W hP.2.1 hQ.2.2 (by omega) (by omega)
 have hm2:=fun W=>aj d1 s2 _ _ W hP.2.2 hQ.2.1 (by omega) (by omega)
 have l1:(decN (p.num.natAbs*q.den)).length≤40000:=Nat.le_trans (am _ _) (by rw[←hP.2.1,←hQ.2.2,size_data,size_data];omega);have l2:(decN (p.den*q.num.natAbs)).length≤40000:=Nat.le_trans (am _ _) (by rw[←hP.2.2,←hQ.2.1,size_data,size_data];omega);have HRQ:Hid (redQ (n1 !=n2) (p.num.natAbs*q.den) (p.den*q.num.natAbs)=p / q):=hid (by rw[hP.1,hQ.1];exact bk p q h0);have hden:0<p.den*q.num.natAbs:=Nat.mul_pos p.den_pos (by omega);generalize p.num.natAbs*q.den=X at *;generalize p.den*q.num.natAbs=Y at *;have hrd:=fun W=>refReduce_any (n1 !=n2) ⟨(decN X).toArray⟩ ⟨(decN Y).toArray⟩ X Y W rfl rfl (by rw[sz_txt];omega) (by rw[sz_txt];omega) hden
 obtain ⟨m1,m2⟩:=redQ_le (n1 !=n2) X Y hden;rw[HRQ.out] at hrd m1 m2;have htx:=fun W=>refText_any (p / q) W (dec_len_dvd (n:=1000000) (by omega) m1) (dec_len_dvd (n:=1000000) (by omega) m2)
 clear m1 m2 l1 l2 hden hP hQ hp0 hq0 HRQ h0;unfold ratV at hrd htx;generalize p / q=qq at *;generalize (⟨(decN X).toArray⟩:ByteArray)=px at *;generalize (⟨(decN Y).toArray⟩:ByteArray)=py at *
 go_enter func111,ntmps111
 go_wp2_with fail
 refine hp.mono ?_;rintro e w1 ⟨rfl,hb1⟩;have HB1:=hid hb1;clear hb1 hp
 go_wp2_with fail
 refine (hr _).mono ?_;rintro e w2 ⟨rfl,hb2⟩;have HT:=hid (TwoP.new (n2:=n2) (s2:=s2) (d2:=d2) HB1.out hb2);clear hb2 hr
 go_wp2_with fail
 generalize (w2.alloc (.cells #[.bool n2,.string s2,.string d2] 135))=w3 at *;generalize w1.heap.size=G at *;generalize w2.heap.size=H at *;have K0:=HT.out.cells
 go_region_held3 (fun w'=>w'.cell? ⟨G,0,none⟩=some (.bool n1)∧w'.cell? ⟨G,1,none⟩=some (.string s1)∧w'.cell? ⟨G,2,none⟩=some (.string d1)∧w'.cell? ⟨H,0,none⟩=some (.bool n2)∧w'.cell? ⟨H,1,none⟩=some (.string s2)∧w'.cell? ⟨H,2,none⟩=some (.string d2))
  (first | exact K0 | exact K1 | exact K2 | exact K3 | exact K4 | go_keep)
  (first
    | (go_at_call 126
       first
        | (with_reducible refine (hm1 _).mono ?_
           rintro e w4 ⟨rfl,hb4⟩;have HT1:=hid ((HT.out.drewN _).far hb4)
           have K1:=HT1.out.cells)
        | (with_reducible refine (hm2 _).mono ?_
           rintro e w5 ⟨rfl,hb5⟩;have HT2:=hid (HT1.out.far hb5)
           have K2:=HT2.out.cells))
    | (go_at_call 122
       refine (hrd _).mono ?_;rintro e w6 ⟨rfl,hb6⟩;have HT3:=hid (HT2.out.far hb6)
       have K3:=HT3.out.cells)
    | (go_at_call 123
       refine (htx _).mono ?_;rintro e w7 ⟨rfl,hb7⟩;have HT4:=hid (HT3.out.far hb7)
       have K4:=HT4.out.cells))
 go_wp2
 go_ret
 exact ⟨ret_str (by rw[HI.out]),HT4.out.bel⟩
theorem bI (s t:ByteArray) (w:World) (hs:s.size≤20000) (ht:t.size≤20000):Calls prog 111 #[.string s,.string t] w fun e w'=>e=.returned (.string ⟨(on2 aG s.data.toList t.data.toList).toArray⟩)∧Below w.heap.size w w':=by
 cases hp:ratF s.data.toList with
 | none=>exact bp s t w hs ht hp
 | some p=>
   cases hq:ratF t.data.toList with
   | none=>exact bb s t w hs ht hp hq
   | some q=>
     by_cases h0:q.num=0
     · exact bq s t w hs ht hp hq h0
     · exact br s t w hs ht hp hq h0
theorem aK (q:Rat):(TX q).data.toList=textQ q:=rfl
theorem bc (q:Rat):ratF (TX q).data.toList=some q:=ratF_text q
def aW (q:Rat) (W:World) (e:Ending) (w':World):Prop:=e=.returned (.string (TX q))∧Below W.heap.size W w'
theorem cM {d e:Nat} {p q:Rat} (hp:DS d p) (hq:DS e q) (hd:d≤9000) (he:e≤9000) (W:World):Calls prog 110 #[.string (TX p),.string (TX q)] W (aW (p*q) W):=by
 have h:=bH (TX p) (TX q) W (by have:=DS.sz hp;omega) (by have:=DS.sz hq;omega);rw[aK,aK,bl] at h;exact h
theorem cN {d e:Nat} {p q:Rat} (hp:DS d p) (hq:DS e q) (hd:d≤9000) (he:e≤9000) (h0:q.num≠0) (W:World):Calls prog 111 #[.string (TX p),.string (TX q)] W (aW (p / q) W):=by
 have h:=bI (TX p) (TX q) W (by have:=DS.sz hp;omega) (by have:=DS.sz hq;omega);rw[aK,aK,bl] at h;unfold aG at h;rw[if_neg h0] at h;exact h
end Go.Proofs.YthefknoicelhaaaGreatDoor
namespace Nmx
end Nmx
namespace Go.Proofs.YthefknoicelhaaaGreatDoor
open Go.RowKit Nmx
open Rf
end Go.Proofs.YthefknoicelhaaaGreatDoor
namespace Go.Proofs.YthefknoicelhaaaGreatDoor
open Go.RowKit Nmx Go.Proofs.Tryz
def bs (a b:Int):Int:=(a % 18446744073709551616) % b
theorem cP (a b:Int) (w:World) (hb:1≤b) (hb':b≤1000000000000000000):
    Calls prog 17 #[.int .i64 a,.int .i64 b] w fun e w'=>e=.returned (.int .i64 (bs a b))∧w=w':=by
 have hwr:IntKind.u64.wrap a=a % 18446744073709551616:=by rw[IntKind.wrap_u64]
 have HW:=hid hwr;clear hwr
 go_enter func17,ntmps17
 go_wp2
 go_ret
 refine ⟨ret_int ?_,rfl⟩;rw[HW.out,Int.tmod_eq_emod_of_nonneg (by omega)];unfold bs;have h0:=Int.emod_nonneg (a % 18446744073709551616) (show b≠0 by omega);have h3:=Int.emod_lt_of_pos (a % 18446744073709551616) (show 0<b by omega);exact IntWalk.wrap64_in _ ⟨by omega,by omega⟩
theorem ay {w w1:World} {r:Nat} (h:w.grownBy w1 (some r)) (j:Nat) (v:Value):w.grownBy (w1.setCell ⟨r,j,none⟩ v) (some r):=
 ⟨h.os,h.tape,h.output,by simpa [World.setCell] using h.size,fun k hk hr=>by rw[Below.heap_setCell _ _ _ _ (by show k≠r;exact fun e=>hr (by rw[e]))];exact h.block k hk hr⟩
theorem dJ (a b:Int) (w:World) (hb:1≤b) (hb2:b≤1000000000000000000):Calls prog 17 #[.int .i64 a,.int .i64 b] w fun e w1=>e=.returned (.int .i64 (bs a b))∧w1=w:=(cP a b w hb hb2).mono fun _ _ h=>⟨h.1,h.2.symm⟩
def cm (C:Nat) (ao:Option Addr) (n cap:Nat) (w:World) (k:Nat) (e:Ending) (w':World):Prop:=
 ∃r:Nat,r<k∧e=.returned (.int .i64 r)∧Ch C ao n cap w'∧w.grownBy w' (some C)∧w'.heap.size=w.heap.size
theorem aa (C:Nat) (ao:Option Addr) (n cap:Nat) (w:World) (k:Nat) (hk:1≤k) (hk2:k≤1000000000000000000) (h:Ch C ao n cap w):
    Calls prog 10 #[.pointer (some ⟨C,0,none⟩),.int .i64 k] w (cm C ao n cap w k):=by
 obtain ⟨i,hi,hb⟩:=h.blk;have c0:w.cell? ⟨C,0,none⟩=some (.slice ao n cap):=by simp[World.cell?,hb]
 have c1:w.cell? ⟨C,1,none⟩=some (.int .i64 i):=by simp[World.cell?,hb]
 have hf:w.frozen? ⟨C,1,none⟩=false:=by simp[World.frozen?,hb]
 have HC:=hid h;have hfew:=h.few
 by_cases hlt:i<n
 · obtain ⟨b,off,hao,hbC,hx⟩:=h.rd (by omega);obtain ⟨x,hx⟩:=hx i hlt;subst hao;have HX:=hid hx;clear h hb hx
   go_enter func10,ntmps10
   go_wp2_with fail
   go_quiet (fail)
   go_wp2_with fail
   have hS:=hid ((HC.out.drewN nq).step (i+1) hlt ((i:Int)+1) rfl);have hG:=hid (ay (grown_drewN (grown_refl w (some C)) nq) 1 (.int .i64 ((i:Int)+1)));have hz:Hid (((w.drewN nq).setCell ⟨C,1,none⟩ (.int .i64 ((i:Int)+1))).heap.size=w.heap.size):=hid (by simp[World.setCell])
   have d0:((w.drewN nq).setCell ⟨C,1,none⟩ (.int .i64 ((i:Int)+1))).cell? ⟨C,0,none⟩=some (.slice (some ⟨b,off,none⟩) n cap):=by
    rw[World.cell?_setCell_other _ _ _ _ (by simp)];exact c0
   have d1:((w.drewN nq).setCell ⟨C,1,none⟩ (.int .i64 ((i:Int)+1))).cell? ⟨C,1,none⟩=some (.int .i64 ((i:Int)+1)):=World.cell?_setCell_same _ _ _ c1
   have d2:((w.drewN nq).setCell ⟨C,1,none⟩ (.int .i64 ((i:Int)+1))).cell? ⟨b,off+i,none⟩=some (.int .i64 x):=by
    rw[World.cell?_setCell_other _ _ _ _ (by simp;try omega)];exact HX.out
   clear c0 c1 hf hx HC HX;generalize (w.drewN nq).setCell ⟨C,1,none⟩ (.int .i64 ((i:Int)+1))=w2 at *;have hwr:IntKind.i64.wrap (i:Int)=i:=by rw[IntKind.wrap_i64];omega
   have hi0:(0:Int)≤(i:Int):=by omega
   have hi1:(i:Int)<(n:Int):=by omega
   go_quiet ((go_at_call 17;exact Calls.quiet_of_same (dJ _ _ _ (by omega) (by omega))))
   go_wp2_with fail
   go_ret
   have hm0:0≤bs x k:=by unfold bs;exact Int.emod_nonneg _ (by omega)
   have hm1:bs x k<k:=by unfold bs;exact Int.emod_lt_of_pos _ (by omega)
   exact ⟨(bs x k).toNat,by omega,congrArg (fun z=>Ending.returned (Value.int .i64 z)) (Int.toNat_of_nonneg hm0).symm,hS.out.drewN _,grown_drewN hG.out _,hz.out⟩
 · have:i=n:=by omega
   subst this;clear h hb
   go_enter func10,ntmps10
   go_wp2_with fail
   go_quiet (fail)
   go_wp2_with fail
   go_ret
   exact ⟨0,by omega,rfl,HC.out.drewN _,grown_drewN (grown_refl _ _) _,rfl⟩
structure ArgI (w:World) (ao:Option Addr) (len cap:Nat):Prop where
 le:len≤cap
 most:cap≤maxLen
 rd:0<cap→∃b off,ao=some ⟨b,off,.none⟩∧b<w.heap.size∧∀t,t<len→∃x:Int,w.cell? ⟨b,off+t,.none⟩=some (.int .i64 x)
def cQ (w:World) (ao:Option Addr) (len cap:Nat) (e:Ending) (w':World):Prop:=
 e=.returned (.pointer (some ⟨w.heap.size,0,none⟩))∧w'=w.alloc (.cells #[.slice ao (min len 400) cap,.int .i64 0] 57)
theorem cR (ao:Option Addr) (len cap:Nat) (w:World) (h:ArgI w ao len cap):
    Calls prog 9 #[.slice ao len cap] w (cQ w ao len cap):=by
 have hle:=h.le;have hm:=h.most;unfold maxLen at hm
 by_cases hc:cap=0
 · subst hc;have hl:len=0:=by omega
   subst hl;clear h;cases ao with
   | none=>
     go_enter func9,ntmps9
     go_wp2
     go_ret
     exact ⟨rfl,rfl⟩
   | some a=>
     obtain ⟨b,off,spot⟩:=a;cases spot with
     | none=>
       go_enter func9,ntmps9
       go_wp2
       go_ret
       exact ⟨rfl,rfl⟩
     | some sp=>
       go_enter func9,ntmps9
       go_wp2
       go_ret
       exact ⟨rfl,rfl⟩
 · obtain ⟨b,off,rfl,hb,_⟩:=h.rd (by omega);clear h
   by_cases hlt:len≤400
   · have hmin:min (len:Int) 400=len:=by omega
     have hmin2:min len 400=len:=by omega
     have hi1:(len:Int)≤(cap:Int):=by omega
     go_enter func9,ntmps9
     go_wp2
     go_ret
     exact ⟨rfl,by rw[hmin2]⟩
   · have hmin:min (len:Int) 400=400:=by omega
     have hmin2:min len 400=400:=by omega
     have hi1:(400:Int)≤(cap:Int):=by omega
     go_enter func9,ntmps9
     go_wp2
     go_ret
     exact ⟨rfl,by rw[hmin2]⟩
theorem ad {w w1 w2:World} {r:Option Nat} (h:w.grownBy w1 r) (h2:Below w1.heap.size w1 w2):w.grownBy w2 r:=grown_trans h (grown_more (grown_below h2))
def cS (C:Nat) (ao:Option Addr) (n cap:Nat) (w:World) (e:Ending) (w':World):Prop:=∃z:Int,z.natAbs<10 ^ 24∧e=.returned (.string (TX (z:Rat)))∧Ch C ao n cap w'∧w.grownBy w' (some C)
def cT (C:Nat) (ao:Option Addr) (n cap:Nat) (w:World) (e:Ending) (w':World):Prop:=∃q:Rat,DS 26 q∧e=.returned (.string (TX q))∧Ch C ao n cap w'∧w.grownBy w' (some C)
theorem ae (z:Int) (h1: -9223372036854775808≤z) (h2:z≤9223372036854775807) (W:World):Calls prog 16 #[.int .i64 z] W (aW (z:Rat) W):=by
 have h:=refFromInt_any z W h1 h2;unfold aW TX;rw[textQ_int];exact h
theorem bt:(10:Nat) ^ 24=1000000000000000000000000:=by decide
theorem aE (C:Nat) (ao:Option Addr) (n cap:Nat) (w:World) (h:Ch C ao n cap w):Calls prog 89 #[.pointer (some ⟨C,0,none⟩)] w (cS C ao n cap w):=by
 have HC0:=hid h;clear h
 go_enter func89,ntmps89
 go_wp2_with fail
 refine (aa _ _ _ _ _ 8 (by omega) (by omega) HC0.out).mono ?_;rintro e w1 ⟨r1,hr1,rfl,hch,hg,-⟩;have HC1:=hid hch;have HG1:=hid (hg);clear hch hg;have q0:(0:Int)≤(r1:Int):=by omega
 have q1:(r1:Int)<8:=by omega
 by_cases h6:r1=6
 · subst h6
   go_wp2_with fail
   refine (aa _ _ _ _ _ 2001 (by omega) (by omega) HC1.out).mono ?_;rintro e w2 ⟨r2,hr2,rfl,hch,hg,-⟩;have HC2:=hid hch;have HG2:=hid (grown_trans HG1.out hg);clear hch hg;have q2:(0:Int)≤(r2:Int):=by omega
   have q3:(r2:Int)<2001:=by omega
   obtain ⟨z,hz⟩:∃z:Int,(r2:Int)-1000=z:=⟨_,rfl⟩
   have HZ:Hid (z.natAbs<10 ^ 24):=hid (by rw[bt];omega)
   go_wp2_with fail
   refine (ae z (by omega) (by omega) _).mono ?_;rintro e w3 ⟨rfl,hb⟩;have HC3:=hid (HC2.out.call hb);have HG3:=hid (ad HG2.out hb);clear hb;clear hz
   go_wp2
   go_ret
   exact ⟨z,HZ.out,rfl,HC3.out,HG3.out⟩
 · by_cases h7:r1=7
   · subst h7
     go_wp2_with fail
     refine (aa _ _ _ _ _ 1099511627776 (by omega) (by omega) HC1.out).mono ?_;rintro e w2 ⟨r2,hr2,rfl,hch,hg,-⟩;have HC2:=hid hch;have HG2:=hid (grown_trans HG1.out hg);clear hch hg;have q2:(0:Int)≤(r2:Int):=by omega
     have q3:(r2:Int)<1099511627776:=by omega
     obtain ⟨y,hy⟩:∃y:Int,(r2:Int)-549755813888=y:=⟨_,rfl⟩
     have hy1: -549755813888≤y:=by omega
     have hy2:y≤549755813888:=by omega
     go_wp2_with fail
     refine (ae y (by omega) (by omega) _).mono ?_;rintro e w3 ⟨rfl,hb⟩;have HC3:=hid (HC2.out.call hb);have HG3:=hid (ad HG2.out hb);clear hb;clear hy q2 q3
     go_wp2_with fail
     refine (aa _ _ _ _ _ 1099511627776 (by omega) (by omega) HC3.out).mono ?_;rintro e w4 ⟨r4,hr4,rfl,hch,hg,-⟩;have HC4:=hid hch;have HG4:=hid (grown_trans HG3.out hg);clear hch hg;have q4:(0:Int)≤(r4:Int):=by omega
     have q5:(r4:Int)<1099511627776:=by omega
     have hfr:=fun W=>ae (r4:Int) (by omega) (by omega) W
     unfold aW at hfr;obtain ⟨tr,htr⟩:∃tr,TX (((r4:Int)):Rat)=tr:=⟨_,rfl⟩
     rw[htr] at hfr;have HTR:=hid htr;clear htr
     go_wp2_with fail
     refine (hfr _).mono ?_;rintro e w5 ⟨rfl,hb⟩;have HC5:=hid (HC4.out.call hb);have HG5:=hid (ad HG4.out hb);clear hb;have d1:DS 24 ((y:Int):Rat):=DS.int (by rw[bt];omega);have d2:DS 24 (((r4:Int)):Rat):=DS.int (by rw[bt];omega);have hm:=fun W=>cM d1 d2 (by omega) (by omega) W
     rw[←Rat.intCast_mul] at hm
     have HZ:Hid ((y*(r4:Int)).natAbs<10 ^ 24):=hid (by
      rw[Int.natAbs_mul,bt];have h1:y.natAbs≤549755813888:=by omega
      have h2:((r4:Int)).natAbs≤1099511627776:=by omega
      have:=Nat.mul_le_mul h1 h2
      omega)
     obtain ⟨z,hz⟩:∃z:Int,y*(r4:Int)=z:=⟨_,rfl⟩
     rw[hz] at hm HZ;unfold aW at hm;rw[HTR.out] at hm;clear d1 d2 hz hy1 hy2 HTR hfr;generalize TX (y:Rat)=ty at *
     go_wp2_with fail
     refine (hm _).mono ?_;rintro e w6 ⟨rfl,hb⟩;have HC6:=hid (HC5.out.call hb);have HG6:=hid (ad HG5.out hb);clear hb
     go_wp2
     go_ret
     exact ⟨z,HZ.out,rfl,HC6.out,HG6.out⟩
   · have h6i:((r1:Int)==6)=false:=by simp;omega
     have h7i:((r1:Int)==7)=false:=by simp;omega
     clear h6 h7
     go_wp2_with fail
     refine (aa _ _ _ _ _ 9 (by omega) (by omega) HC1.out).mono ?_;rintro e w2 ⟨r2,hr2,rfl,hch,hg,-⟩;have HC2:=hid hch;have HG2:=hid (grown_trans HG1.out hg);clear hch hg;have q2:(0:Int)≤(r2:Int):=by omega
     have q3:(r2:Int)<9:=by omega
     obtain ⟨z,hz⟩:∃z:Int,(r2:Int)-4=z:=⟨_,rfl⟩
     have HZ:Hid (z.natAbs<10 ^ 24):=hid (by rw[bt];omega)
     go_wp2_with fail
     refine (ae z (by omega) (by omega) _).mono ?_;rintro e w3 ⟨rfl,hb⟩;have HC3:=hid (HC2.out.call hb);have HG3:=hid (ad HG2.out hb);clear hb;clear hz
     go_wp2
     go_ret
     exact ⟨z,HZ.out,rfl,HC3.out,HG3.out⟩
theorem bJ (C:Nat) (ao:Option Addr) (n cap:Nat) (w:World) (h:Ch C ao n cap w):Calls prog 90 #[.pointer (some ⟨C,0,none⟩)] w (cT C ao n cap w):=by
 have hi:=aE C ao n cap w h;clear h
 go_enter func90,ntmps90
 go_wp2_with fail
 refine hi.mono ?_;rintro e w1 ⟨z,hz,rfl,hch,hg⟩;have HC1:=hid hch;have HG1:=hid hg;have HZ:=hid hz;clear hch hg hi hz
 go_wp2_with fail
 refine (aa _ _ _ _ _ 4 (by omega) (by omega) HC1.out).mono ?_;rintro e w2 ⟨r2,hr2,rfl,hch,hg,-⟩;have HC2:=hid hch;have HG2:=hid (grown_trans HG1.out hg);clear hch hg;have q2:(0:Int)≤(r2:Int):=by omega
 have q3:(r2:Int)<4:=by omega
 obtain ⟨y,hy⟩:∃y:Int,1+(r2:Int)=y:=⟨_,rfl⟩
 have hy1:1≤y:=by omega
 have hy2:y≤4:=by omega
 go_wp2_with fail
 refine (ae y (by omega) (by omega) _).mono ?_;rintro e w3 ⟨rfl,hb⟩;have HC3:=hid (HC2.out.call hb);have HG3:=hid (ad HG2.out hb);clear hb;clear hy q2 q3;have d1:DS 24 ((z:Int):Rat):=DS.int HZ.out;have d2:DS 2 ((y:Int):Rat):=DS.int (by show _<100;omega);have hn0:((y:Int):Rat).num≠0:=by rw[Rat.num_intCast];omega
 have hm:=fun W=>cN d1 d2 (by omega) (by omega) hn0 W
 have HD:Hid (DS 26 (((z:Int):Rat) / ((y:Int):Rat))):=hid (d1.div d2 hn0);generalize ((z:Int):Rat) / ((y:Int):Rat)=q at *;clear d1 d2 hn0 hy1 hy2;generalize TX (z:Rat)=tz at *;generalize TX (y:Rat)=ty at *
 go_wp2_with fail
 refine (hm _).mono ?_;rintro e w4 ⟨rfl,hb⟩;have HC4:=hid (HC3.out.call hb);have HG4:=hid (ad HG3.out hb);clear hb
 go_wp2
 go_ret
 exact ⟨q,HD.out,rfl,HC4.out,HG4.out⟩
end Go.Proofs.YthefknoicelhaaaGreatDoor
namespace Go.Proofs.YthefknoicelhaaaGreatDoor
open Go.RowKit Nmx
open Go.MapKept
section
variable {P:Program} {k e t:TypeId} (hk:P.underlying k=some .string) (ht:P.underlying t=some (.map k e)) {w:World} {B:Nat} {kvs:List (ByteArray×Value)} (h:MapS w B kvs)
include hk ht h
end
section
variable {P:Program} {w:World} {ops:Array Oper} {rest:List Oper} {o:Oper} {a:Act} {Q:Exit→Act→World→Prop} (hg:o.guard=none) (k e t:TypeId)
include hg
theorem aI (m x v:Operand) (hop:o.op=Op.mapUpdate t m x v) (hk:P.underlying k=some .string) (ht:P.underlying t=some (.map k e)) (B:Nat) (kvs:List (ByteArray×Value)) (hm:a.eval m=.map (some B)) (h:MapS w B kvs) (s:ByteArray) (hs:a.eval x=.string s) (u:Value) (hu:a.eval v=u) (hf:findS s kvs 0=none)
    (hK:∀w',MapS w' B (kvs++[(s,u)])→w.grownBy w' (some B)→wpList P ops Q rest (a.put o.dst undef) w'):wpList P ops Q (o::rest) a w:=by
 refine wpList_plain hg fun K' hK'=>?_
 obtain ⟨w',hrun,r1,r2⟩:=run_put_miss hk ht h (v:=u) hf;unfold Oper.wp
 simp[execOp,hop,hm,hs,hu,hrun,Result.andThen]
 exact hK' _ _ (hK w' r1 r2)
end
end Go.Proofs.YthefknoicelhaaaGreatDoor
namespace Go.Proofs.YthefknoicelhaaaGreatDoor
open Go.RowKit
section
variable {P:Program} {ops:Array Oper} {A:List (List Nat)} {C E:World→Prop} {a0:Act}
theorem aF {Rl:World→World→Prop} (hRl:RelOk Rl) {id:Nat} {Q:Exit→Act→World→Prop} {w:World} {l:List Oper} (A:List (List Nat)) (C E:World→Prop) (h:ShA Rl P l.toArray A C E a0 id Q w [] (fun _=>a0) l):(Code.region id l.toArray true).wp P Q a0 w:=
 h.go hRl trivial (fun _=>rfl) (by simp)
section
variable {Rl:World→World→Prop} {id:Nat} {Q:Exit→Act→World→Prop} {w0:World} {K:List AK} {fr:(Nat→Value)→Act} {rest:List Oper} {o:Oper}
theorem aO (F:Value→Prop) (T:Value→World→Prop) (hT:∀v w w',T v w→Rl w w'→T v w') (hw:∀x,Region.wanted o (yielded ops (fr x).tmps)=true)
    (hv:∀x w R,C w→FactsR (A.getD K.length []) false x w false K→(∀u w',F u→T u w'→Rl w w'→R u w')→addAt P o (fr x) w R)
    (h:ShA Rl P ops A C E a0 id Q w0 (.opq false 0 (fun x=>F (x K.length)) (fun x w=>T (x K.length) w)::K) (fun x=>(fr x).put o.dst (x K.length)) rest):ShA Rl P ops A C E a0 id Q w0 K fr (o::rest):=
 add_step (.opq false 0 (fun x=>F (x K.length)) (fun x w=>T (x K.length) w)) (fun x w w' h hb=>hT _ _ _ h hb) (fun x x' hx=>⟨fun (h:F (x K.length))=>by rw[hx _ (.inl rfl)] at h;exact h,fun w (h:T (x K.length) w)=>by rw[hx _ (.inl rfl)] at h;exact h⟩) (fun x w hc hF hD=>.inl ⟨hw x,hv x w _ (hc.2 rfl) hF fun u w' h0 h1 h2=>⟨rfl,by
  show F (updX x K.length _ K.length);rw[updX_self];exact h0,by
  show T (updX x K.length _ K.length) _;rw[updX_self];exact h1,(fun h=>by cases h),(fun _=>h2),fun h=>by cases h⟩⟩) h
end
end
end Go.Proofs.YthefknoicelhaaaGreatDoor

/- Plain words about bytes, words and items: no program. -/
import Derived.Test.YtapdbeaoakcjeaaGreatDoorENC
import Derived.Test.YtapdbeaoakcjeaaGreatDoorEShelf
import Derived.Test.YtapdbeaoakcjeaaGreatDoorRows
import Derived.WalkKit
import Derived.WalkSpells
import Derived.WalkLawsBesides
import Derived.Deep.QuietTactic
import Derived.BigQuiet
import Derived.Lib.Hide
import Derived.Shelf.Strings.SlTrimAscii
import Derived.Lib.IndexBytes
set_option maxRecDepth 100000
set_option maxHeartbeats 40000000
open Go.Lib (hid)
namespace Sx
def dig (c:UInt8):Bool:=decide (48≤c.toNat) && decide (c.toNat≤57)
def let1 (c:UInt8):Bool:=(decide (97≤c.toNat) && decide (c.toNat≤122)) || (decide (65≤c.toNat) && decide (c.toNat≤90))
def marks:List UInt8:=[126,33,64,36,37,94,38,42,95,45,43,61,60,62,46,63,47,58]
def wb (c:UInt8):Bool:=dig c || let1 c || marks.contains c
def numeral (l:List UInt8):Bool:=l.all dig && (l==[48] || (l !=[] && l.headD 0 !=48))
def upto (l:List UInt8):List UInt8:=l.takeWhile (· !=46)
def behind (l:List UInt8):List UInt8:=(l.dropWhile (· !=46)).drop 1
def decimal (l:List UInt8):Bool:=l.contains 46 && numeral (upto l) && behind l !=[] && (behind l).all dig
def wkind (l:List UInt8):Int:=
 if l=[] then 0 else if dig (l.headD 0)=false then 1 else if numeral l then 2 else if decimal l then 3 else 0
def skipN:Bool→List UInt8→Nat
 | _,[]=>0
 | cm,c::r=>
   if c.toNat=10 then 1+skipN false r
   else if cm then 1+skipN true r
   else if c.toNat=59 then 1+skipN true r
   else if c.toNat≠32∧c.toNat≠9∧c.toNat≠13 then 0
   else 1+skipN false r
theorem skipN_le (l:List UInt8):∀cm,skipN cm l≤l.length:=by
 induction l with
 | nil=>intro cm;simp[skipN]
 | cons c r ih=>
   intro cm;have a:=ih false;have b:=ih true;simp only[skipN,au]
   repeat' split
   all_goals omega
def textN:List UInt8→Option (List UInt8×Nat)
 | []=>none
 | [c]=>if c.toNat=34 then some ([],1) else none
 | c::d::r=>
   if c.toNat=34 then (if d.toNat=34 then (textN r).map fun x=>(34::x.1,x.2+2) else some ([],1))
   else if c.toNat<32∨126<c.toNat then none else (textN (d::r)).map fun x=>(c::x.1,x.2+1)
theorem textN_le:∀(n:Nat) (l:List UInt8),l.length≤n→∀x,textN l=some x→x.2≤l.length∧x.1.length≤l.length:=by
 intro n
 induction n with
 | zero=>intro l hl x h;cases l with
   | nil=>simp[textN] at h
   | cons a r=>simp at hl
 | succ n ih=>
   intro l hl x h
   match l,hl,h with
   | [],_,h=>simp[textN] at h
   | [c],_,h=>
     simp only[textN] at h
     split at h
     · cases h;simp
     · cases h
   | c::d::r,hl,h=>
     simp only[textN] at h
     split at h
     · split at h
       · simp only[Option.map_eq_some_iff] at h;obtain ⟨y,hy,rfl⟩:=h;have:=ih r (by simp at hl;omega) y hy;simp only[au];omega
       · cases h;simp
     · split at h
       · cases h
       · simp only[Option.map_eq_some_iff] at h;obtain ⟨y,hy,rfl⟩:=h;have:=ih (d::r) (by simp at hl ⊢;omega) y hy;simp only[au] at *;omega
end Sx
/- What the functions of single bytes answer: for every byte. -/
namespace Go.Proofs.YtapdbeaoakcjeaaGreatDoor.Se
open Go.RowKit
theorem ret_int {k:IntKind} {a b:Int} (h:a=b):Ending.returned (.int k a)=.returned (.int k b):=by rw[h]
theorem ret_bool {a b:Bool} (h:a=b):Ending.returned (.bool a)=.returned (.bool b):=by rw[h]
theorem vR {a b:Bool} (h:a=true ↔ b=true):a=b:=Bool.eq_iff_iff.2 h
theorem pY (P:UInt8→Bool) (h:(List.range 256).all (fun n=>P n.toUInt8)=true) (c:UInt8):P c=true:=by
 have:=List.all_eq_true.1 h c.toNat (by simp;exact c.toNat_lt)
 simpa using this
theorem ui (c:UInt8):decide (0≤Lib.indexByte [126,33,64,36,37,94,38,42,95,45,43,61,60,62,46,63,47,58] c)=Sx.marks.contains c:=by
 have:=pY (fun c=>decide (0≤Lib.indexByte [126,33,64,36,37,94,38,42,95,45,43,61,60,62,46,63,47,58] c)==Sx.marks.contains c) (by decide+kernel) c
 simpa using this
theorem isDigit_any (c:UInt8) (w:World):
    Calls Tryz.prog 159 #[.int .u8 c.toNat] w fun e w'=>e=.returned (.bool (Sx.dig c))∧w=w':=by
 go_enter Tryz.func159,Tryz.ntmps159
 go_wp2
 all_goals go_ret
 all_goals refine ⟨ret_bool (vR ?_),rfl⟩
 all_goals (simp only[Sx.dig,Bool.and_eq_true,decide_eq_true_eq,Bool.false_eq_true];grind)
theorem rI (c:UInt8) (h:c.toNat=0):Sx.marks.contains c=false:=by
 have:c=0:=UInt8.toNat_inj.1 h;subst this;rfl
theorem gZ (c:UInt8) (w:World):
    Calls Tryz.prog 133 #[.int .u8 c.toNat] w fun e w'=>e=.returned (.bool (Sx.wb c))∧w=w':=by
 have HI:Hid (∀c:UInt8,decide (0≤Lib.indexByte [126,33,64,36,37,94,38,42,95,45,43,61,60,62,46,63,47,58] c)=Sx.marks.contains c):=ui
 go_enter Tryz.func133,Tryz.ntmps133
 go_wp2_with (first | (go_at_call 159;refine (isDigit_any _ _).mono ?_;rintro e w' ⟨rfl,rfl⟩) | (go_at_call 160;refine (Tryz.strings_IndexByte _ _ _).mono ?_;rintro e w' ⟨rfl,rfl⟩))
 all_goals go_ret
 all_goals refine ⟨ret_bool (vR ?_),rfl⟩
 all_goals (try simp only[HI.out])
 all_goals (try have h0:=rI c (by assumption))
 all_goals (simp only[Sx.wb,Sx.let1,Sx.dig,Bool.and_eq_true,Bool.or_eq_true,decide_eq_true_eq,Bool.false_eq_true,bne_iff_ne] at *)
 all_goals (generalize Sx.marks.contains c=m at *;cases m)
 all_goals (simp only[Bool.false_eq_true,and_false,or_false,and_true,or_true] at *)
 all_goals grind
end Go.Proofs.YtapdbeaoakcjeaaGreatDoor.Se
/- What the functions of whole words answer: for every string. -/
namespace Go.Proofs.YtapdbeaoakcjeaaGreatDoor.Se
open Go.RowKit
theorem uj (s:ByteArray) (k:Nat) (h:k<s.size):s.data.toList.take (k+1)=s.data.toList.take k++[s[k]]:=by
 rw[List.take_succ_eq_append_getElem (by simpa using h)];rfl
theorem mh (p:UInt8→Bool) (s:ByteArray) (k:Nat) (h:k<s.size) (ha:(s.data.toList.take k).all p=true) (hp:p s[k]=true):(s.data.toList.take (k+1)).all p=true:=by
 rw[uj s k h,List.all_append,ha];simp[hp]
theorem oL (p:UInt8→Bool) (s:ByteArray) (k:Nat) (h:k<s.size) (hp:¬p s[k]=true):s.data.toList.all p=false:=by
 rw[Bool.eq_false_iff];intro ha;exact hp (List.all_eq_true.1 ha _ (by simp[ByteArray.getElem_eq_getElem_data]))
theorem oM (p:UInt8→Bool) (s:ByteArray) (k:Nat) (h:¬k<s.size) (ha:(s.data.toList.take k).all p=true):s.data.toList.all p=true:=by
 rwa [aJ (by simp;omega)] at ha
theorem de (s:ByteArray):s.data.toList.length=s.size:=by rw[Array.length_toList];rfl
theorem vS (s:ByteArray) (k:Nat) (h:k<s.size):s.data.toList[k]? =some s[k]:=by
 rw[aq (by rw[de];exact h)];rfl
theorem nC (s:ByteArray) (h:0<s.size):s.data.toList.headD 0=s[0]:=by
 rw[List.headD_eq_head?_getD,List.head?_eq_getElem?,vS s 0 h];rfl
theorem gy (s:ByteArray) (h:¬0<s.size):s.data.toList=[]:=by
 have:=de s;exact List.length_eq_zero_iff.1 (by omega)
theorem Ac (c:UInt8):((c.toNat:Int) !=48)=(c !=48):=by
 rw[Bool.eq_iff_iff];simp only[bne_iff_ne,ne_eq]
 constructor
 · intro h e;subst e;exact h rfl
 · intro h e;exact h (UInt8.toNat_inj.1 (by show c.toNat=48;omega))
theorem vT (s:ByteArray) (h:0<s.size):
    (s.toList==[48] || !s.toList.isEmpty && ((s[0].toNat:Int)) !=48)=(s.data.toList==[48] || s.data.toList !=[] && s.data.toList.headD 0 !=48):=by
 rw[nC s h,Ac,ByteArray.toList_eq]
 congr 2
 cases s.data.toList <;> rfl
theorem ef (s:ByteArray) (w:World) (hs:s.size≤maxLen):
    Calls Tryz.prog 161 #[.string s] w fun e w'=>e=.returned (.bool (Sx.numeral s.data.toList))∧w=w':=by
 unfold maxLen at hs
 go_enter Tryz.func161,Tryz.ntmps161
 go_wp2
 go_loop [3] (fun i=>∃k:Nat,k≤s.size∧i=.int .i64 k∧(s.data.toList.take k).all Sx.dig=true) (fun i=>s.size-(intOf i).toNat)
 case atStart=>exact ⟨0,aE _,rfl,rfl⟩
 case round=>
  obtain ⟨k,hk,rfl,ha⟩:=hrel;have HA:=hid ha;clear ha
  by_cases hlt:k<s.size
  · go_wp2_with (go_at_call 159;refine (isDigit_any _ _).mono ?_;rintro e w' ⟨rfl,rfl⟩)
    · have hd:(!Sx.dig s[k])=true:=by assumption
      go_ret
      exact ⟨ret_bool (by unfold Sx.numeral;rw[oL Sx.dig s k hlt (by simpa using hd)];rfl),rfl⟩
    · have hd:(!Sx.dig s[k])=false:=by assumption
      go_round
      case rel=>exact ⟨k+1,by omega,by go_num,mh Sx.dig s k hlt HA.out (by simpa using hd)⟩
      case measure=>simp[intOf];omega
  · have hall:=hid (oM Sx.dig s k hlt HA.out);clear HA
    by_cases h0:0<s.size
    · go_wp2
      all_goals go_ret
      all_goals refine ⟨ret_bool ?_,rfl⟩
      all_goals (unfold Sx.numeral;rw[hall.out,Bool.true_and])
      · have h1:s.toList=[48]:=by assumption
        rw[ByteArray.toList_eq] at h1;rw[h1];rfl
      · have h1:s.toList=[]:=by assumption
        rw[ByteArray.toList_eq] at h1;rw[h1];rfl
      · exact vT s h0
    · have hn:s.toList=[]:=by rw[ByteArray.toList_eq];exact gy s h0
      go_wp2
      go_ret
      exact ⟨ret_bool (by unfold Sx.numeral;rw[gy s h0];rfl),rfl⟩
theorem indexByte_cut:∀l:List UInt8,(l.contains 46=true→0≤Lib.indexByte l 46∧l.take (Lib.indexByte l 46).toNat=Sx.upto l∧l.drop ((Lib.indexByte l 46).toNat+1)=Sx.behind l)∧(l.contains 46=false→Lib.indexByte l 46= -1):=by
 intro l
 induction l with
 | nil=>exact ⟨fun h=>by simp at h,fun _=>rfl⟩
 | cons b r ih=>
   obtain ⟨i1,i2⟩:=ih
   by_cases hb:b=46
   · subst hb;exact ⟨fun _=>⟨by simp[Lib.indexByte],by simp[Lib.indexByte,Sx.upto],by simp[Lib.indexByte,Sx.behind]⟩,fun h=>by simp at h⟩
   · have hb':(b==(46:UInt8))=false:=by simpa using hb
     have hbn:(b !=(46:UInt8))=true:=by simpa using hb
     have hc:(b::r).contains 46=r.contains 46:=by
      rw[List.contains_cons];rw[show ((46:UInt8)==b)=false by rw[beq_eq_false_iff_ne];exact fun e=>hb e.symm]
      simp
     rw[hc]
     constructor
     · intro h;obtain ⟨h0,h1,h2⟩:=i1 h
       have hi:Lib.indexByte (b::r) 46=Lib.indexByte r 46+1:=by
        have hne:(Lib.indexByte r 46== -1)=false:=by rw[beq_eq_false_iff_ne];omega
        simp[Lib.indexByte,hb',hne]
       obtain ⟨n,hn⟩:=Int.eq_ofNat_of_zero_le h0;rw[hi,hn];have e1:((n:Int)+1).toNat=n+1:=by omega
       rw[hn] at h1 h2;rw[e1];simp only[Int.toNat_natCast] at h1 h2;refine ⟨by omega,?_,?_⟩
       · rw[List.take_succ_cons,h1];unfold Sx.upto;rw[List.takeWhile_cons,hbn];simp
       · rw[List.drop_succ_cons,h2];unfold Sx.behind;rw[List.dropWhile_cons,hbn];simp
     · intro h;rw[Lib.indexByte,hb',i2 h];rfl
theorem uk (l:List UInt8):Lib.cut l [46]=if l.contains 46 then (Sx.upto l,Sx.behind l,true) else (l,[],false):=by
 unfold Lib.cut;rw[Lib.index_one];obtain ⟨h1,h2⟩:=indexByte_cut l
 by_cases hc:l.contains 46=true
 · obtain ⟨a,b,c⟩:=h1 hc;rw[if_pos a,if_pos hc,b];simp only[aK,c]
 · have hf:l.contains 46=false:=by simpa using hc
   rw[h2 hf,hf];rfl
theorem kV (c:UInt8):([48,49,50,51,52,53,54,55,56,57]:List UInt8).contains c=Sx.dig c:=by
 have:=pY (fun c=>([48,49,50,51,52,53,54,55,56,57]:List UInt8).contains c==Sx.dig c) (by decide+kernel) c;exact beq_iff_eq.1 this
theorem fB (p:UInt8→Bool) (l:List UInt8):l.dropWhile p=[] ↔ l.all p=true:=by
 induction l with
 | nil=>simp
 | cons a r ih=>by_cases h:p a=true <;> simp[h,ih]
theorem pZ (l:List UInt8):(Lib.trimS l [48,49,50,51,52,53,54,55,56,57]==[])=l.all Sx.dig:=by
 have e:(fun c=>([48,49,50,51,52,53,54,55,56,57]:List UInt8).contains c)=Sx.dig:=funext kV;unfold Lib.trimS Lib.trimLeftS Lib.trimRightS;rw[e,Bool.eq_iff_iff,beq_iff_eq,fB,List.all_reverse]
 constructor
 · intro h
   by_cases hall:l.all Sx.dig=true
   · exact hall
   · exfalso
     have hne:l.reverse.dropWhile Sx.dig≠[]:=fun hn=>hall (by have:=(fB _ _).1 hn;rwa [List.all_reverse] at this)
     obtain ⟨a,r,har⟩:=List.exists_cons_of_ne_nil hne;have hd:=List.head?_dropWhile_not Sx.dig l.reverse;rw[har] at hd h
     simp at hd h
     rw[hd] at h;simp at h
 · intro h;have:l.reverse.dropWhile Sx.dig=[]:=(fB _ _).2 (by rwa [List.all_reverse]);rw[this];rfl
theorem vU (l:List UInt8):(Sx.upto l).length≤l.length:=by
 unfold Sx.upto;exact (List.takeWhile_sublist _).length_le
theorem rJ (l:List UInt8):(Sx.behind l).length≤l.length:=by
 unfold Sx.behind;rw[List.length_drop];have:=(List.dropWhile_sublist (l:=l) (p:=(· !=46))).length_le
 omega
theorem jB (l:List UInt8):(ByteArray.mk l.toArray).size=l.length:=by show l.toArray.size=_;simp
theorem nD (b:List UInt8) (hb:¬b=[]):(true && b !=[] && b.all Sx.dig)=(Lib.trimS b [48,49,50,51,52,53,54,55,56,57]).isEmpty:=by
 rw[←pZ];have:(b !=[])=true:=by simpa using hb
 rw[this,Bool.true_and,Bool.true_and];cases Lib.trimS b [48,49,50,51,52,53,54,55,56,57] <;> rfl
theorem gz (s:ByteArray) (m:Int) (w:World) (hs:s.size<4294967281) (hM:w.cell? ⟨0,0,none⟩=some (.int .i64 m)):
    Calls Tryz.prog 134 #[.string s] w fun e w'=>e=.returned (.int .i64 (Sx.wkind s.data.toList))∧Below w.heap.size w w':=by
 by_cases h0:0<s.size
 · have hne:s.data.toList≠[]:=fun e=>by have:=de s;rw[e] at this;simp at this;omega
   have hse:s.toList.isEmpty=false:=by rw[ByteArray.toList_eq];simpa using hne
   have hh:=nC s h0;have HC:=hid (uk s.data.toList)
   by_cases hd:Sx.dig s[0]=true
   · have hdf:Sx.dig (s.data.toList.headD 0)=false ↔ False:=by rw[hh];simp[hd]
     by_cases hnum:Sx.numeral s.data.toList=true
     · have HW:Hid (Sx.wkind s.data.toList=2):=hid (by unfold Sx.wkind;rw[if_neg hne,if_neg (by rw[hdf];exact id),if_pos hnum]);clear HC hh hdf
       go_enter Tryz.func134,Tryz.ntmps134
       go_wp2_with (first | (go_at_call 159;refine (isDigit_any _ _).mono ?_;rintro e w' ⟨rfl,rfl⟩) | (go_at_call 161;refine (ef _ _ (by unfold maxLen;omega)).mono ?_;rintro e w' ⟨rfl,rfl⟩))
       go_ret
       exact ⟨ret_int (by rw[HW.out]),ah _ _⟩
     · have hnum':Sx.numeral s.data.toList=false:=by simpa using hnum
       have HW:Hid (Sx.wkind s.data.toList=if Sx.decimal s.data.toList then 3 else 0):=hid (by unfold Sx.wkind;rw[if_neg hne,if_neg (by rw[hdf];exact id),if_neg hnum]);clear hh hdf hnum
       by_cases hc:s.data.toList.contains 46=true
       · have HC':Hid (Lib.cut s.data.toList [46]=(Sx.upto s.data.toList,Sx.behind s.data.toList,true)):=hid (by rw[HC.out,if_pos hc]);have hu:=vU s.data.toList;have hb:=rJ s.data.toList;rw[de] at hu hb;have HD:Hid (Sx.decimal s.data.toList=(Sx.numeral (Sx.upto s.data.toList) && Sx.behind s.data.toList !=[] && (Sx.behind s.data.toList).all Sx.dig)):=hid (by unfold Sx.decimal;rw[hc,Bool.true_and]);clear HC hc;generalize hu':Sx.upto s.data.toList=u at *;generalize hb':Sx.behind s.data.toList=b at *;clear hu' hb'
         by_cases hb0:b=[]
         · go_enter Tryz.func134,Tryz.ntmps134
           go_wp2_with (first
            | (go_at_call 159;refine (isDigit_any _ _).mono ?_;rintro e w' ⟨rfl,rfl⟩)
            | (go_at_call 161;refine (ef _ _ (by unfold maxLen;first | omega | (rw[jB];omega))).mono ?_;rintro e w' ⟨rfl,rfl⟩)
            | (go_at_call 153;refine (Tryz.strings_Cut s ⟨#[46]⟩ m _ hs (by assumption)).mono ?_;rintro e w' ⟨rfl,nq,rfl⟩;simp only[HC'.out])
            | (go_at_call 162;refine (Any.strings_Trim_laid Tryz.lays160 (by kernel_rfl) _ ⟨#[48,49,50,51,52,53,54,55,56,57]⟩ _ (by rw[jB];omega) (by decide) (ascii_of_all (by decide))).mono ?_;rintro e w' ⟨rfl,hbw⟩))
           · have hx:Sx.numeral u=true:=by assumption
             go_ret
             exact ⟨ret_int (by rw[HW.out,HD.out,hx,hb0];rfl),aO (ah _ _) _⟩
           · have hx:¬Sx.numeral u=true:=by assumption
             go_ret
             exact ⟨ret_int (by rw[HW.out,HD.out,Bool.eq_false_iff.2 hx];rfl),aO (ah _ _) _⟩
         · go_enter Tryz.func134,Tryz.ntmps134
           go_wp2_with (first
            | (go_at_call 159;refine (isDigit_any _ _).mono ?_;rintro e w' ⟨rfl,rfl⟩)
            | (go_at_call 161;refine (ef _ _ (by unfold maxLen;first | omega | (rw[jB];omega))).mono ?_;rintro e w' ⟨rfl,rfl⟩)
            | (go_at_call 153;refine (Tryz.strings_Cut s ⟨#[46]⟩ m _ hs (by assumption)).mono ?_;rintro e w' ⟨rfl,nq,rfl⟩;simp only[HC'.out])
            | (go_at_call 162;refine (Any.strings_Trim_laid Tryz.lays160 (by kernel_rfl) _ ⟨#[48,49,50,51,52,53,54,55,56,57]⟩ _ (by rw[jB];omega) (by decide) (ascii_of_all (by decide))).mono ?_;rintro e w' ⟨rfl,hbw⟩))
           · have hx:Sx.numeral u=true:=by assumption
             have hy:(!b.isEmpty)=true∧(Lib.trimS b [48,49,50,51,52,53,54,55,56,57]).isEmpty=true:=by assumption
             go_ret
             exact ⟨ret_int (by rw[HW.out,HD.out,hx,nD b hb0,hy.2];rfl),(aO (ah _ _) _).trans hbw⟩
           · have hx:Sx.numeral u=true:=by assumption
             have hy:(!b.isEmpty)=false∨(Lib.trimS b [48,49,50,51,52,53,54,55,56,57]).isEmpty=false:=by assumption
             have hy':(Lib.trimS b [48,49,50,51,52,53,54,55,56,57]).isEmpty=false:=by
              rcases hy with h | h
              · exact absurd (by simpa using h) hb0
              · exact h
             go_ret
             exact ⟨ret_int (by rw[HW.out,HD.out,hx,nD b hb0,hy'];rfl),(aO (ah _ _) _).trans hbw⟩
           · have hx:¬Sx.numeral u=true:=by assumption
             go_ret
             exact ⟨ret_int (by rw[HW.out,HD.out,Bool.eq_false_iff.2 hx];rfl),aO (ah _ _) _⟩
       · have hcf:s.data.toList.contains 46=false:=by simpa using hc
         have HC':Hid (Lib.cut s.data.toList [46]=(s.data.toList,[],false)):=hid (by rw[HC.out,if_neg hc]);have HD:Hid (Sx.decimal s.data.toList=false):=hid (by unfold Sx.decimal;rw[hcf];rfl);clear HC hc hcf
         go_enter Tryz.func134,Tryz.ntmps134
         go_wp2_with (first
             | (go_at_call 159;refine (isDigit_any _ _).mono ?_;rintro e w' ⟨rfl,rfl⟩)
             | (go_at_call 161;refine (ef _ _ (by unfold maxLen;first | omega | (rw[jB];omega))).mono ?_;rintro e w' ⟨rfl,rfl⟩)
             | (go_at_call 153;refine (Tryz.strings_Cut s ⟨#[46]⟩ m _ hs (by assumption)).mono ?_;rintro e w' ⟨rfl,nq,rfl⟩;simp only[HC'.out]))
         go_ret
         exact ⟨ret_int (by rw[HW.out,HD.out];rfl),aO (ah _ _) _⟩
   · have hd':Sx.dig s[0]=false:=by simpa using hd
     have HW:Hid (Sx.wkind s.data.toList=1):=hid (by unfold Sx.wkind;rw[if_neg hne,hh,if_pos hd']);clear hd HC hh
     go_enter Tryz.func134,Tryz.ntmps134
     go_wp2_with (go_at_call 159;refine (isDigit_any _ _).mono ?_;rintro e w' ⟨rfl,rfl⟩)
     go_ret
     exact ⟨ret_int (by rw[HW.out]),ah _ _⟩
 · have hn:s.toList=[]:=by rw[ByteArray.toList_eq];exact gy s h0
   have HW:Hid (Sx.wkind s.data.toList=0):=hid (by unfold Sx.wkind;rw[gy s h0];rfl)
   go_enter Tryz.func134,Tryz.ntmps134
   go_wp2
   go_ret
   exact ⟨ret_int (by rw[HW.out]),ah _ _⟩
end Go.Proofs.YtapdbeaoakcjeaaGreatDoor.Se
/- The reader of package sexpr: its four cells and what it owns; 'skip' passes what it passes, for every text. -/
namespace Go.Proofs.YtapdbeaoakcjeaaGreatDoor.Se
open Go.RowKit
structure It where
 kind:Int
 text:ByteArray
 kids:Int
 pos:Int
def It.cells (x:It):List Value:=[.int .i64 x.kind,.string x.text,.int .i64 x.kids,.int .i64 x.pos]
def hJ (l:List It):List Value:=l.flatMap It.cells
structure Rd (B:Nat) (w:World) (s:ByteArray) (p:Nat) (its:List It) (op:List Nat) (vi vo:Value):Prop where
 blk:w.heap[B]? =some (.cells #[.string s,.int .i64 p,vi,vo] 121 (0,0))
 rowi:w.ownsRow (B+1) 88 4 vi its.length (hJ its)
 rowo:w.ownsRow (B+1) 3 1 vo op.length (op.map fun n:Nat=>Value.int .i64 n)
structure Inv (m:Int) (B:Nat) (w0 w:World) (s:ByteArray) (p:Nat) (its:List It) (op:List Nat):Prop where
 rd:∃vi vo,Rd B w s p its op vi vo
 below:Below B w0 w
 has:B<w.heap.size
 big:0<B
 len:w.cell? ⟨0,0,none⟩=some (.int .i64 m)
theorem Rd.src {B w s p its op vi vo} (h:Rd B w s p its op vi vo):w.cell? ⟨B,0,none⟩=some (.string s):=by
 simp[World.cell?,h.blk]
theorem Rd.at {B w s p its op vi vo} (h:Rd B w s p its op vi vo):w.cell? ⟨B,1,none⟩=some (.int .i64 p):=by
 simp[World.cell?,h.blk]
theorem Rd.fz {B w s p its op vi vo} (h:Rd B w s p its op vi vo) (j:Nat):w.frozen? ⟨B,j,none⟩=false:=by
 simp[World.frozen?,h.blk]
theorem kH {w:World} {base:Nat} {e:TypeId} {size:Nat} {v:Value} {n:Nat} {xs:List Value} (h:w.ownsRow base e size v n xs) {g:Nat} (hg:v.ownBlock=some g):∃cur,w.heap[g]? =some (.cells cur e (0,0)):=by
 obtain ⟨_,h | ⟨g',cap,cur,hv,_,hh,_⟩⟩:=h
 · rw[h.1] at hg;cases hg
 · rw[hv] at hg;cases hg;exact ⟨cur,hh⟩
theorem eg {w:World} {b b':Nat} {e e':TypeId} {z z':Nat} {v v':Value} {n n':Nat} {xs xs':List Value} (h:w.ownsRow b e z v n xs) (h':w.ownsRow b' e' z' v' n' xs') (hne:e≠e') {g:Nat} (hg:v.ownBlock=some g):v'.ownBlock≠some g:=by
 intro hg';obtain ⟨c,hc⟩:=kH h hg;obtain ⟨c',hc'⟩:=kH h' hg';rw[hc] at hc';cases hc';exact hne rfl
theorem Inv.drewN {m B w0 w s p its op} (h:Inv m B w0 w s p its op) (n:Nat):Inv m B w0 (w.drewN n) s p its op:=
 let ⟨vi,vo,r⟩:=h.rd
 ⟨⟨vi,vo,⟨r.blk,r.rowi,r.rowo⟩⟩,aO h.below n,h.has,h.big,h.len⟩
theorem Inv.drew {m B w0 w s p its op} (h:Inv m B w0 w s p its op):Inv m B w0 w.drew s p its op:=h.drewN 1
theorem Inv.setPos {m B w0 w s p its op} (h:Inv m B w0 w s p its op) (p':Nat) (q:Int) (hq:q=p'):Inv m B w0 (w.setCell ⟨B,1,none⟩ (.int .i64 q)) s p' its op:=by
 subst hq;obtain ⟨⟨vi,vo,hr⟩,hb,hh,h0,hl⟩:=h;refine ⟨⟨vi,vo,?_,?_,?_⟩,hb.setCell (ag B) _,?_,h0,?_⟩
 · simp[World.setCell,Array.getElem?_modify,hr.blk]
 · exact ownsRow_setCell_below hr.rowi (a:=⟨B,1,none⟩) (by show B<B+1;omega) _
 · exact ownsRow_setCell_below hr.rowo (a:=⟨B,1,none⟩) (by show B<B+1;omega) _
 · simpa [World.setCell] using hh
 · rw[World.cell?_setCell_other _ _ _ _ (by simp)];exact hl
theorem Inv.cellAt {m B w0 w s p its op} (h:Inv m B w0 w s p its op):w.cell? ⟨B,1,none⟩=some (.int .i64 p):=
 let ⟨_,_,r⟩:=h.rd
 r.at
theorem eh (s:ByteArray) (k:Nat) (h:k<s.size):s.data.toList.drop k=s[k]::s.data.toList.drop (k+1):=by
 rw[List.drop_eq_getElem_cons (by rw[de];exact h)];rfl
theorem jC (s:ByteArray) (k:Nat) (h:¬k<s.size):s.data.toList.drop k=[]:=by
 rw[List.drop_eq_nil_iff,de];omega
theorem um (s:ByteArray) (k:Nat) (c:Bool) (h:k<s.size):Sx.skipN c (s.data.toList.drop k)=
    if s[k].toNat=10 then 1+Sx.skipN false (s.data.toList.drop (k+1)) else if c then 1+Sx.skipN true (s.data.toList.drop (k+1)) else if s[k].toNat=59 then 1+Sx.skipN true (s.data.toList.drop (k+1))
    else if s[k].toNat≠32∧s[k].toNat≠9∧s[k].toNat≠13 then 0 else 1+Sx.skipN false (s.data.toList.drop (k+1)):=by
 rw[eh s k h];rfl
theorem p8 (m:Int) (B:Nat) (w0 w:World) (s:ByteArray) (p:Nat) (its:List It) (op:List Nat) (h:Inv m B w0 w s p its op) (hs:s.size≤maxLen) (hp:p≤s.size):
    Calls Tryz.prog 95 #[.pointer (some ⟨B,0,none⟩)] w fun e w'=>e=.returned (.tuple #[])∧Inv m B w0 w' s (p+Sx.skipN false (s.data.toList.drop p)) its op:=by
 unfold maxLen at hs;have hi:=hid h
 go_enter Tryz.func95,Tryz.ntmps95
 go_wp2
 go_loopw [2] (fun cm wr=>∃(k:Nat) (c:Bool),k≤s.size∧cm=.bool c∧Inv m B w0 wr s k its op∧k+Sx.skipN c (s.data.toList.drop k)=p+Sx.skipN false (s.data.toList.drop p))
  (fun _ wr=>s.size-(match wr.cell? ⟨B,1,none⟩ with | some (.int _ k)=>k.toNat | _=>0))
 case atStart=>exact ⟨p,false,hp,rfl,h,rfl⟩
 case round=>
  clear h hi;obtain ⟨k,c,hk,rfl,hinv,hr⟩:=hrel;have HR:=hid hr;clear hr;have hsrc:=hinv.rd.choose_spec.choose_spec.src;have hat:=hinv.rd.choose_spec.choose_spec.at;have hfz:=hinv.rd.choose_spec.choose_spec.fz 1
  by_cases hlt:k<s.size
  · go_wp2
    go_quiet (fail)
    go_wp2
    go_quiet (fail)
    go_wp2
    all_goals have e:=um s k c hlt
    all_goals have e2:=HR.out
    all_goals first
     | (refine bodyPost_ret (v:=.tuple #[]) (by simp[results,go_sem]) rfl ⟨rfl,?_⟩
        rw[show p+Sx.skipN false (s.data.toList.drop p)=k by grind]
        exact hinv.drewN _)
     | (refine ⟨⟨k+1,_,by omega,rfl,(hinv.drewN _).setPos (k+1) _ (by omega),?_⟩,?_⟩
        · grind
        · rw[World.cell?_setCell_same _ _ _ (hinv.drewN _).cellAt,hat];show s.size-((k:Int)+1).toNat<s.size-(k:Int).toNat;omega)
  · go_wp2
    go_quiet (fail)
    go_wp2
    go_end0
    have e2:=HR.out;rw[jC s k hlt] at e2;refine ⟨rfl,?_⟩;rw[←e2];exact hinv.drewN _
end Go.Proofs.YtapdbeaoakcjeaaGreatDoor.Se

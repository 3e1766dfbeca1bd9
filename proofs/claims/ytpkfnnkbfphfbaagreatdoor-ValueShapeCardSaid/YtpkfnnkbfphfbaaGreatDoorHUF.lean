import Derived.Test.YtpkfnnkbfphfbaaGreatDoorHNV
import Derived.Test.YtpkfnnkbfphfbaaGreatDoorHUE
set_option maxRecDepth 100000
set_option maxHeartbeats 40000000
open Go.Lib (hid)
namespace Go.Proofs.YtpkfnnkbfphfbaaGreatDoor
open Go.RowKit Nmx Go.Proofs.Tryz
def pN (c:Int):Bool:=(decide (97≤c) && decide (c≤122)) || (decide (65≤c) && decide (c≤90))
def mW (c:Int):Bool:=decide (48≤c) && decide (c≤57)
def gC (c:Int):Bool:=pN c || c==95 || c==36 || c==33
def gD (c:Int):Bool:=mW c || c==46 || c==64
def okC (i:Nat) (c:Int):Bool:=gC c || (!(i==0) && gD c)
def rL:List (List UInt8):=[[97,110,100],[111,114],[110,111,116],[105,116,101],[116,114,117,101],[102,97,108,115,101],[108,101,116],[102,111,114,97,108,108],[101,120,105,115,116,115],[100,105,115,116,105,110,99,116],[100,105,118],[109,111,100],[115,101,108,101,99,116],[115,116,111,114,101],[99,111,110,115,116],[66,111,111,108],[73,110,116],[82,101,97,108],[65,114,114,97,121]]
theorem cP (c:Int) (w:World):Calls prog 192 #[.int .u8 c] w fun e w'=>e=.returned (.bool (pN c))∧w'=w:=by
 by_cases h1:97≤c <;> by_cases h2:c≤122 <;> by_cases h3:65≤c <;> by_cases h4:c≤90
 all_goals
  go_enter func192,ntmps192
  go_wp2
  go_ret
  refine ⟨?_,rfl⟩
  simp[pN,h1,h2,h3,h4]
theorem bX (c:Int) (w:World):Calls prog 221 #[.int .u8 c] w fun e w'=>e=.returned (.bool (pN c))∧w'=w:=by
 by_cases h1:97≤c <;> by_cases h2:c≤122 <;> by_cases h3:65≤c <;> by_cases h4:c≤90
 all_goals
  go_enter func221,ntmps221
  go_wp2
  go_ret
  refine ⟨?_,rfl⟩
  simp[pN,h1,h2,h3,h4]
theorem dm (c:Int) (w:World):Calls prog 193 #[.int .u8 c] w fun e w'=>e=.returned (.bool (mW c))∧w'=w:=by
 by_cases h1:48≤c <;> by_cases h2:c≤57
 all_goals
  go_enter func193,ntmps193
  go_wp2
  go_ret
  refine ⟨?_,rfl⟩
  simp[mW,h1,h2]
def pO (l:List UInt8):Bool:=rL.any fun x=>l==x
theorem iO (s:ByteArray) (w:World):Calls prog 191 #[.string s] w fun e w'=>e=.returned (.bool (pO s.toList))∧w'=w:=by
 go_enter func191,ntmps191
 go_wp2
 all_goals
  first
   | (go_ret;refine ⟨?_,rfl⟩;simp[pO,rL, *];done)
   | (exfalso;simp_all;done)
def cZ (l:List UInt8):Bool:= !l.isEmpty && decide (l.length≤40) && !pO l && (List.range l.length).all fun i=>okC i ((l.getD i 0).toNat:Int)
theorem iP (s:ByteArray):s.toList.length=s.size:=by rw[ByteArray.toList_eq];exact size_data s
theorem uX {s:ByteArray} {k:Nat} (h:k<s.size):s.toList.getD k 0=s[k]:=by
 rw[ByteArray.toList_eq,aA,ay (by rw[size_data];exact h)];rfl
theorem dn {s:ByteArray} {k:Nat} (h:k<s.size) (ha:∀j,j<k→okC j ((s.toList.getD j 0).toNat:Int)=true) (hk:okC k ((s[k].toNat:Int))=true):∀j,j<k+1→okC j ((s.toList.getD j 0).toNat:Int)=true:=fun j hj=>by
 by_cases e:j=k
 · subst e;rw[uX h];exact hk
 · exact ha j (by omega)
theorem iQ {s:ByteArray} {k:Nat} (h:k<s.size) (hk:okC k ((s[k].toNat:Int))=false):cZ s.toList=false:=by
 have:((List.range s.toList.length).all fun i=>okC i ((s.toList.getD i 0).toNat:Int))=false:=by
  refine Bool.eq_false_iff.2 fun e=>?_
  have:=List.all_eq_true.1 e k (List.mem_range.2 (by rw[iP];exact h));rw[uX h,hk] at this;cases this
 unfold cZ;rw[this,Bool.and_false]
theorem oG {s:ByteArray} {k:Nat} (h0:s.toList≠[]) (h1:¬40<s.size) (hr:pO s.toList=false) (hk:s.size≤k) (ha:∀j,j<k→okC j ((s.toList.getD j 0).toNat:Int)=true):cZ s.toList=true:=by
 have:((List.range s.toList.length).all fun i=>okC i ((s.toList.getD i 0).toNat:Int))=true:=
  List.all_eq_true.2 fun j hj=>ha j (by have:=List.mem_range.1 hj;rw[iP] at this;omega)
 unfold cZ;rw[this,hr,iP,aH (by omega)];cases h:s.toList with
 | nil=>exact absurd h h0
 | cons _ _=>rfl
theorem tR (s:ByteArray) (w:World):Calls prog 154 #[.string s] w fun e w'=>e=.returned (.bool (cZ s.toList))∧w'=w:=by
 by_cases h0:s.toList=[]
 · have h0':s.toList.isEmpty=true:=by rw[h0];rfl
   have HR:Hid (cZ s.toList=false):=hid (by unfold cZ;rw[h0'];rfl)
   go_enter func154,ntmps154
   go_wp2
   go_ret
   exact ⟨ret_bool HR.out.symm,rfl⟩
 have h0':s.toList.isEmpty=false:=by
  cases h:s.toList with
  | nil=>exact absurd h h0
  | cons _ _=>rfl
 by_cases h1:40<s.size
 · have h1':(40:Int)<(s.size:Int):=by omega
   have HR:Hid (cZ s.toList=false):=hid (by unfold cZ;rw[iP,aD (by omega),Bool.and_false];rfl)
   go_enter func154,ntmps154
   go_wp2
   go_ret
   exact ⟨ret_bool HR.out.symm,rfl⟩
 have h1':¬(40:Int)<(s.size:Int):=by omega
 by_cases hr:pO s.toList=true
 · have HR:Hid (cZ s.toList=false):=hid (by unfold cZ;rw[hr,Bool.not_true,Bool.and_false];rfl)
   go_enter func154,ntmps154
   go_wp2_with (go_at_call 191;refine (iO _ _).mono ?_;rintro e w1 ⟨rfl,rfl⟩)
   go_ret
   exact ⟨ret_bool HR.out.symm,rfl⟩
 replace hr:pO s.toList=false:=by simpa using hr
 go_enter func154,ntmps154
 go_wp2_with (go_at_call 191;refine (iO _ _).mono ?_;rintro e w1 ⟨rfl,rfl⟩)
 go_loop [3] (fun iv=>∃k:Nat,k≤s.size∧iv=.int .i64 k∧∀j,j<k→okC j ((s.toList.getD j 0).toNat:Int)=true) (fun iv=>s.size-(intOf iv).toNat)
 case atStart=>exact ⟨0,aM _,rfl,fun j hj=>absurd hj (Nat.not_lt_zero j)⟩
 case round=>
  obtain ⟨k,hk,rfl,ha⟩:=hrel;have HA:=hid ha;clear ha
  by_cases hlt:k<s.size
  · skip
    by_cases hL:pN (s[k].toNat:Int)=true
    · have HD:=hid (dn hlt HA.out (by simp[okC,gC,gD,hL]))
      go_wp2_with (first | (go_at_call 192;refine (cP _ _).mono ?_;rintro e w2 ⟨rfl,rfl⟩) | (go_at_call 193;refine (dm _ _).mono ?_;rintro e w2 ⟨rfl,rfl⟩))
      go_round
      case rel=>exact ⟨k+1,by omega,by go_num,HD.out⟩
      case measure=>simp[intOf];omega
    · replace hL:pN (s[k].toNat:Int)=false:=by simpa using hL
      by_cases h95:(s[k].toNat:Int)=95
      · have q95:((s[k].toNat:Int)==95)=true:=by rw[beq_iff_eq];omega
        have d95:decide ((s[k].toNat:Int)=95)=true:=aH (by omega);clear h95;have HD:=hid (dn hlt HA.out (by simp[okC,gC,gD,hL,q95]))
        go_wp2_with (first | (go_at_call 192;refine (cP _ _).mono ?_;rintro e w2 ⟨rfl,rfl⟩) | (go_at_call 193;refine (dm _ _).mono ?_;rintro e w2 ⟨rfl,rfl⟩))
        go_round
        case rel=>exact ⟨k+1,by omega,by go_num,HD.out⟩
        case measure=>simp[intOf];omega
      · have q95:((s[k].toNat:Int)==95)=false:=by rw[beq_eq_false_iff_ne];omega
        have d95:decide ((s[k].toNat:Int)=95)=false:=aD (by omega)
        by_cases h36:(s[k].toNat:Int)=36
        · have q36:((s[k].toNat:Int)==36)=true:=by rw[beq_iff_eq];omega
          have d36:decide ((s[k].toNat:Int)=36)=true:=aH (by omega);clear h36;have HD:=hid (dn hlt HA.out (by simp[okC,gC,gD,hL,q95,q36]))
          go_wp2_with (first | (go_at_call 192;refine (cP _ _).mono ?_;rintro e w2 ⟨rfl,rfl⟩) | (go_at_call 193;refine (dm _ _).mono ?_;rintro e w2 ⟨rfl,rfl⟩))
          go_round
          case rel=>exact ⟨k+1,by omega,by go_num,HD.out⟩
          case measure=>simp[intOf];omega
        · have q36:((s[k].toNat:Int)==36)=false:=by rw[beq_eq_false_iff_ne];omega
          have d36:decide ((s[k].toNat:Int)=36)=false:=aD (by omega)
          by_cases h33:(s[k].toNat:Int)=33
          · have q33:((s[k].toNat:Int)==33)=true:=by rw[beq_iff_eq];omega
            have d33:decide ((s[k].toNat:Int)=33)=true:=aH (by omega);clear h33;have HD:=hid (dn hlt HA.out (by simp[okC,gC,gD,hL,q95,q36,q33]))
            go_wp2_with (first | (go_at_call 192;refine (cP _ _).mono ?_;rintro e w2 ⟨rfl,rfl⟩) | (go_at_call 193;refine (dm _ _).mono ?_;rintro e w2 ⟨rfl,rfl⟩))
            go_round
            case rel=>exact ⟨k+1,by omega,by go_num,HD.out⟩
            case measure=>simp[intOf];omega
          · have q33:((s[k].toNat:Int)==33)=false:=by rw[beq_eq_false_iff_ne];omega
            have d33:decide ((s[k].toNat:Int)=33)=false:=aD (by omega)
            by_cases hk:k=0
            · subst hk;have HR:Hid (cZ s.toList=false):=hid (iQ hlt (by simp[okC,gC,gD,hL,q95,q36,q33]))
              go_wp2_with (first | (go_at_call 192;refine (cP _ _).mono ?_;rintro e w2 ⟨rfl,rfl⟩) | (go_at_call 193;refine (dm _ _).mono ?_;rintro e w2 ⟨rfl,rfl⟩))
              go_ret
              exact ⟨ret_bool HR.out.symm,rfl⟩
            · have hk0:(k==0)=false:=by rw[beq_eq_false_iff_ne];exact hk
              have hki:((k:Int)==0)=false:=by rw[beq_eq_false_iff_ne];omega
              have hkd:decide ((k:Int)=0)=false:=aD (by omega)
              by_cases hD:mW (s[k].toNat:Int)=true
              · skip
                have HD:=hid (dn hlt HA.out (by simp[okC,gC,gD,hL,hD,hk0]))
                go_wp2_with (first | (go_at_call 192;refine (cP _ _).mono ?_;rintro e w2 ⟨rfl,rfl⟩) | (go_at_call 193;refine (dm _ _).mono ?_;rintro e w2 ⟨rfl,rfl⟩))
                go_round
                case rel=>exact ⟨k+1,by omega,by go_num,HD.out⟩
                case measure=>simp[intOf];omega
              · have hD':mW (s[k].toNat:Int)=false:=by simpa using hD
                clear hD
                by_cases h46:(s[k].toNat:Int)=46
                · have q46:((s[k].toNat:Int)==46)=true:=by rw[beq_iff_eq];omega
                  have d46:decide ((s[k].toNat:Int)=46)=true:=aH (by omega);have n46:((s[k].toNat:Int) !=46)=false:=by rw[bne,q46];rfl
                  clear h46;have HD:=hid (dn hlt HA.out (by simp[okC,gC,gD,hL,hD',q46,hk0]))
                  go_wp2_with (first | (go_at_call 192;refine (cP _ _).mono ?_;rintro e w2 ⟨rfl,rfl⟩) | (go_at_call 193;refine (dm _ _).mono ?_;rintro e w2 ⟨rfl,rfl⟩))
                  go_round
                  case rel=>exact ⟨k+1,by omega,by go_num,HD.out⟩
                  case measure=>simp[intOf];omega
                · have q46:((s[k].toNat:Int)==46)=false:=by rw[beq_eq_false_iff_ne];omega
                  have d46:decide ((s[k].toNat:Int)=46)=false:=aD (by omega);have n46:((s[k].toNat:Int) !=46)=true:=by rw[bne,q46];rfl
                  by_cases h64:(s[k].toNat:Int)=64
                  · have q64:((s[k].toNat:Int)==64)=true:=by rw[beq_iff_eq];omega
                    have d64:decide ((s[k].toNat:Int)=64)=true:=aH (by omega);have n64:((s[k].toNat:Int) !=64)=false:=by rw[bne,q64];rfl
                    clear h64;have HD:=hid (dn hlt HA.out (by simp[okC,gC,gD,hL,hD',q64,hk0]))
                    go_wp2_with (first | (go_at_call 192;refine (cP _ _).mono ?_;rintro e w2 ⟨rfl,rfl⟩) | (go_at_call 193;refine (dm _ _).mono ?_;rintro e w2 ⟨rfl,rfl⟩))
                    go_round
                    case rel=>exact ⟨k+1,by omega,by go_num,HD.out⟩
                    case measure=>simp[intOf];omega
                  · have q64:((s[k].toNat:Int)==64)=false:=by rw[beq_eq_false_iff_ne];omega
                    have d64:decide ((s[k].toNat:Int)=64)=false:=aD (by omega);have n64:((s[k].toNat:Int) !=64)=true:=by rw[bne,q64];rfl
                    have HR:Hid (cZ s.toList=false):=hid (iQ hlt (by simp[okC,gC,gD,hL,q95,q36,q33,hD',q46,q64]))
                    go_wp2_with (first | (go_at_call 192;refine (cP _ _).mono ?_;rintro e w2 ⟨rfl,rfl⟩) | (go_at_call 193;refine (dm _ _).mono ?_;rintro e w2 ⟨rfl,rfl⟩))
                    go_ret
                    exact ⟨ret_bool HR.out.symm,rfl⟩
  · have HR:Hid (cZ s.toList=true):=hid (oG h0 h1 hr (by omega) HA.out);have hlt':¬((k:Int)<(s.size:Int)):=by omega
    go_wp2
    go_ret
    exact ⟨ret_bool HR.out.symm,rfl⟩
end Go.Proofs.YtpkfnnkbfphfbaaGreatDoor
namespace Go.Proofs.YtpkfnnkbfphfbaaGreatDoor.Se
open Go.RowKit Nmx Go.Proofs.Tryz
def vN (t:ByteArray):Bool:=(bp t.data.toList).isSome
def iN (t:ByteArray):Bool:=match bp t.data.toList with | some q=>decide (q.den=1) | none=>false
def sN (t:ByteArray):Int:=dd ((bp t.data.toList).getD 0).num
def srF (s:Int):Bool:=decide (1≤s) && decide (s≤4)
def fdF (x:Nd):Bool:=
 if x.op=3 then (x.sort==2 || x.sort==3) && (x.name.toList.isEmpty && (vN x.num && (x.sort==3 || iN x.num)))
 else if x.op=4∨x.op=5 then srF x.sort && (cZ x.name.toList && x.num.toList.isEmpty)
 else if x.op=16∨x.op=17 then x.sort==0 && (x.name.toList.isEmpty && (iN x.num && decide (0<sN x.num)))
 else x.sort==0 && (x.name.toList.isEmpty && x.num.toList.isEmpty)
def fpF (x:Nd):Bool:=decide (1≤x.op) && (decide (x.op≤20) && (decide ((arF x.op).1≤x.kids) && (decide (x.kids≤(arF x.op).2) && fdF x)))
theorem uY (t:ByteArray) (w:World) (hs:t.size≤1000) (h:Env w):Calls prog 33 #[.string t] w fun e w'=>e=.returned (.bool (vN t))∧Below w.heap.size w w':=
 pp t w (by omega) h (dZ (by rw[size_data];omega))
theorem gY (t:ByteArray) (w:World) (hs:t.size≤1000) (h:Env w):Calls prog 32 #[.string t] w fun e w'=>e=.returned (.bool (iN t))∧Below w.heap.size w w':=
 j6 t w (by omega) h (dZ (by rw[size_data];omega))
theorem A0 (t:ByteArray) (w:World) (hs:t.size≤1000) (h:Env w):Calls prog 155 #[.string t] w fun e w'=>e=.returned (.int .i64 (sN t))∧Below w.heap.size w w':=
 lx t w (by omega) h (dZ (by rw[size_data];omega))
theorem jl (x:Nd) (w:World) (hs:x.num.size≤1000) (h:Env w):
    Calls prog 111 #[x.val] w fun e w'=>e=.returned (.bool (fpF x))∧Below w.heap.size w w':=by
 obtain ⟨op,sort,name,num,kids⟩:=x;unfold Nd.val;simp only at hs;have hbw:Below w.heap.size w (w.alloc (.cells #[.int .i64 op,.int .i64 sort,.string name,.string num,.int .i64 kids] 57)):=(am _ _).alloc (aj _) _;have HE:=hid (h.far hbw);have hl:w.heap.size<(w.alloc (.cells #[.int .i64 op,.int .i64 sort,.string name,.string num,.int .i64 kids] 57)).heap.size:=by simp
 have HB:=hid hbw;have c0:(w.alloc (.cells #[.int .i64 op,.int .i64 sort,.string name,.string num,.int .i64 kids] 57)).cell? ⟨w.heap.size,0,none⟩=some (.int .i64 op):=by rw[World.cell?_alloc_at _ _ _ _ rfl];rfl
 have c1:(w.alloc (.cells #[.int .i64 op,.int .i64 sort,.string name,.string num,.int .i64 kids] 57)).cell? ⟨w.heap.size,1,none⟩=some (.int .i64 sort):=by rw[World.cell?_alloc_at _ _ _ _ rfl];rfl
 have c2:(w.alloc (.cells #[.int .i64 op,.int .i64 sort,.string name,.string num,.int .i64 kids] 57)).cell? ⟨w.heap.size,2,none⟩=some (.string name):=by rw[World.cell?_alloc_at _ _ _ _ rfl];rfl
 have c3:(w.alloc (.cells #[.int .i64 op,.int .i64 sort,.string name,.string num,.int .i64 kids] 57)).cell? ⟨w.heap.size,3,none⟩=some (.string num):=by rw[World.cell?_alloc_at _ _ _ _ rfl];rfl
 have c4:(w.alloc (.cells #[.int .i64 op,.int .i64 sort,.string name,.string num,.int .i64 kids] 57)).cell? ⟨w.heap.size,4,none⟩=some (.int .i64 kids):=by rw[World.cell?_alloc_at _ _ _ _ rfl];rfl
 have ha:=wa op (w.alloc (.cells #[.int .i64 op,.int .i64 sort,.string name,.string num,.int .i64 kids] 57));have HF:Hid (fpF ⟨op,sort,name,num,kids⟩=(decide (1≤op) && (decide (op≤20) && (decide ((arF op).1≤kids) && (decide (kids≤(arF op).2) && fdF ⟨op,sort,name,num,kids⟩))))):=hid rfl;clear hbw h
 go_enter func111,ntmps111
 go_wp2_with fail
 generalize w.alloc (.cells #[.int .i64 op,.int .i64 sort,.string name,.string num,.int .i64 kids] 57)=w1 at *;refine ha.mono ?_;rintro e w2 ⟨rfl,rfl⟩;clear ha;generalize hlo:(arF op).1=lo at *;generalize hhi:(arF op).2=hi at *;clear hlo hhi;generalize hS:w.heap.size=S at *;have HS:=hid hS;have hS2:S≤w2.heap.size:=aL hl;clear hS
 by_cases h1:op<1
 · have HN:Hid (fpF ⟨op,sort,name,num,kids⟩=false):=hid (by rw[HF.out,aD (by omega)];rfl)
   go_wp2
   go_ret
   exact ⟨by rw[HN.out];rfl,by rw[HS.out];exact HB.out⟩
 by_cases h2:20<op
 · have HN:Hid (fpF ⟨op,sort,name,num,kids⟩=false):=hid (by rw[HF.out,aD (p:=op≤20) (by omega)];simp)
   go_wp2
   go_ret
   exact ⟨by rw[HN.out];rfl,by rw[HS.out];exact HB.out⟩
 by_cases h3:kids<lo
 · have HN:Hid (fpF ⟨op,sort,name,num,kids⟩=false):=hid (by rw[HF.out,aD (p:=lo≤kids) (by omega)];simp)
   go_wp2
   go_ret
   exact ⟨by rw[HN.out];rfl,by rw[HS.out];exact HB.out⟩
 by_cases h4:hi<kids
 · have HN:Hid (fpF ⟨op,sort,name,num,kids⟩=false):=hid (by rw[HF.out,aD (p:=kids≤hi) (by omega)];simp)
   go_wp2
   go_ret
   exact ⟨by rw[HN.out];rfl,by rw[HS.out];exact HB.out⟩
 have HG:Hid (fpF ⟨op,sort,name,num,kids⟩=fdF ⟨op,sort,name,num,kids⟩):=hid (by rw[HF.out,aH (by omega),aH (by omega),aH (by omega),aH (by omega)];simp);clear HF;have hq1:1≤op:=by omega
 have hq2:op≤20:=by omega
 by_cases e3:op=3
 · subst e3;have HD:Hid (fpF ⟨3,sort,name,num,kids⟩=((sort==2 || sort==3) && (name.toList.isEmpty && (vN num && (sort==3 || iN num))))):=hid (by rw[HG.out];rfl);clear HG;have hv:=uY num w2 hs HE.out
   by_cases s3:sort=3
   · subst s3;cases hnm:name.toList.isEmpty
     · have HN:Hid (fpF ⟨3,3,name,num,kids⟩=false):=hid (by rw[HD.out];simp[hnm])
       go_wp2
       go_ret
       exact ⟨by rw[HN.out];rfl,by rw[HS.out];exact HB.out⟩
     · cases hvn:vN num
       all_goals rw[hvn] at hv
       · go_wp2_with fail
         refine hv.mono ?_;rintro e w3 ⟨rfl,hb3⟩;have HB3:=hid (HB.out.trans (hb3.mono hS2));have hS3:=aP hS2 hb3.size;have HEHB3:=hid (HE.out.far hb3);have d1:=(hb3.cell (p:=⟨S,1,none⟩) hl).trans c1;have d3:=(hb3.cell (p:=⟨S,3,none⟩) hl).trans c3;clear hb3;have HN:Hid (fpF ⟨3,3,name,num,kids⟩=false):=hid (by rw[HD.out];simp[hnm,hvn])
         go_wp2
         go_ret
         exact ⟨by rw[HN.out];rfl,by rw[HS.out];exact HB3.out⟩
       · go_wp2_with fail
         refine hv.mono ?_;rintro e w3 ⟨rfl,hb3⟩;have HB3:=hid (HB.out.trans (hb3.mono hS2));have hS3:=aP hS2 hb3.size;have HEHB3:=hid (HE.out.far hb3);have d1:=(hb3.cell (p:=⟨S,1,none⟩) hl).trans c1;have d3:=(hb3.cell (p:=⟨S,3,none⟩) hl).trans c3;clear hb3;have HN:Hid (fpF ⟨3,3,name,num,kids⟩=true):=hid (by rw[HD.out];simp[hnm,hvn])
         go_wp2
         go_ret
         exact ⟨by rw[HN.out];rfl,by rw[HS.out];exact HB3.out⟩
   · by_cases s2:sort=2
     · subst s2;cases hnm:name.toList.isEmpty
       · have HN:Hid (fpF ⟨3,2,name,num,kids⟩=false):=hid (by rw[HD.out];simp[hnm])
         go_wp2
         go_ret
         exact ⟨by rw[HN.out];rfl,by rw[HS.out];exact HB.out⟩
       · cases hvn:vN num
         all_goals rw[hvn] at hv
         · go_wp2_with fail
           refine hv.mono ?_;rintro e w3 ⟨rfl,hb3⟩;have HB3:=hid (HB.out.trans (hb3.mono hS2));have hS3:=aP hS2 hb3.size;have HEHB3:=hid (HE.out.far hb3);have d1:=(hb3.cell (p:=⟨S,1,none⟩) hl).trans c1;have d3:=(hb3.cell (p:=⟨S,3,none⟩) hl).trans c3;clear hb3;have HN:Hid (fpF ⟨3,2,name,num,kids⟩=false):=hid (by rw[HD.out];simp[hnm,hvn])
           go_wp2
           go_ret
           exact ⟨by rw[HN.out];rfl,by rw[HS.out];exact HB3.out⟩
         · go_wp2_with fail
           refine hv.mono ?_;rintro e w3 ⟨rfl,hb3⟩;have HB3:=hid (HB.out.trans (hb3.mono hS2));have hS3:=aP hS2 hb3.size;have HEHB3:=hid (HE.out.far hb3);have d1:=(hb3.cell (p:=⟨S,1,none⟩) hl).trans c1;have d3:=(hb3.cell (p:=⟨S,3,none⟩) hl).trans c3;clear hb3;have hi2:=gY num w3 hs HEHB3.out;cases hin:iN num
           all_goals rw[hin] at hi2
           · go_wp2_with fail
             refine hi2.mono ?_;rintro e w4 ⟨rfl,hb4⟩;have HB4:=hid (HB3.out.trans (hb4.mono hS3));have hS4:=aP hS3 hb4.size;have HEHB4:=hid (HEHB3.out.far hb4);clear hb4;have HN:Hid (fpF ⟨3,2,name,num,kids⟩=false):=hid (by rw[HD.out];simp[hnm,hvn,hin])
             go_wp2
             go_ret
             exact ⟨by rw[HN.out];rfl,by rw[HS.out];exact HB4.out⟩
           · go_wp2_with fail
             refine hi2.mono ?_;rintro e w4 ⟨rfl,hb4⟩;have HB4:=hid (HB3.out.trans (hb4.mono hS3));have hS4:=aP hS3 hb4.size;have HEHB4:=hid (HEHB3.out.far hb4);clear hb4;have HN:Hid (fpF ⟨3,2,name,num,kids⟩=true):=hid (by rw[HD.out];simp[hnm,hvn,hin])
             go_wp2
             go_ret
             exact ⟨by rw[HN.out];rfl,by rw[HS.out];exact HB4.out⟩
     · have e2:(sort==2)=false:=by simp[s2]
       have e3:(sort==3)=false:=by simp[s3]
       have HN:Hid (fpF ⟨3,sort,name,num,kids⟩=false):=hid (by rw[HD.out];simp[s2,s3])
       go_wp2
       go_ret
       exact ⟨by rw[HN.out];rfl,by rw[HS.out];exact HB.out⟩
 by_cases e4:op=4∨op=5
 · have HD:Hid (fpF ⟨op,sort,name,num,kids⟩=(srF sort && (cZ name.toList && num.toList.isEmpty))):=hid (by rw[HG.out];unfold fdF;simp only;rw[aB e3,aF e4]);clear HG e3;have hsr:=tQ sort w2;rw[show (decide (1≤sort) && decide (sort≤4))=srF sort from rfl] at hsr;have hnm:=tR name w2;cases h5:srF sort
   all_goals rw[h5] at hsr
   · rcases e4 with rfl | rfl
     all_goals
      go_wp2_with fail
      refine hsr.mono ?_;rintro e w3 ⟨rfl,rfl⟩;have HN:=hid (HD.out.trans (show _=false by simp[h5]))
      go_wp2
      go_ret
      exact ⟨by rw[HN.out];rfl,by rw[HS.out];exact HB.out⟩
   · cases h6:cZ name.toList
     all_goals rw[h6] at hnm
     · rcases e4 with rfl | rfl
       all_goals
        go_wp2_with fail
        refine hsr.mono ?_;rintro e w3 ⟨rfl,rfl⟩
        go_wp2_with fail
        refine hnm.mono ?_;rintro e w3 ⟨rfl,rfl⟩;have HN:=hid (HD.out.trans (show _=false by simp[h5,h6]))
        go_wp2
        go_ret
        exact ⟨by rw[HN.out];rfl,by rw[HS.out];exact HB.out⟩
     · rcases e4 with rfl | rfl
       all_goals
        go_wp2_with fail
        refine hsr.mono ?_;rintro e w3 ⟨rfl,rfl⟩
        go_wp2_with fail
        refine hnm.mono ?_;rintro e w3 ⟨rfl,rfl⟩;have HN:=hid (HD.out.trans (show _=num.toList.isEmpty by simp only[h5,h6,Bool.true_and]))
        go_wp2
        go_ret
        exact ⟨by rw[HN.out];rfl,by rw[HS.out];exact HB.out⟩
 by_cases e16:op=16∨op=17
 · have HD:Hid (fpF ⟨op,sort,name,num,kids⟩=(sort==0 && (name.toList.isEmpty && (iN num && decide (0<sN num))))):=hid (by rw[HG.out];unfold fdF;simp only;rw[aB e3,aB e4,aF e16]);clear HG e3 e4;have hi2:=gY num w2 hs HE.out
   by_cases s0:sort=0
   · subst s0;cases hnm:name.toList.isEmpty
     · rcases e16 with rfl | rfl
       all_goals
        have HN:=hid (HD.out.trans (show _=false by simp[hnm]))
        go_wp2
        go_ret
        exact ⟨by rw[HN.out];rfl,by rw[HS.out];exact HB.out⟩
     · cases hin:iN num
       all_goals rw[hin] at hi2
       · rcases e16 with rfl | rfl
         all_goals
          have HN:=hid (HD.out.trans (show _=false by simp[hnm,hin]))
          go_wp2_with fail
          refine hi2.mono ?_;rintro e w3 ⟨rfl,hb3⟩;have HB3:=hid (HB.out.trans (hb3.mono hS2));clear hb3
          go_wp2
          go_ret
          exact ⟨by rw[HN.out];rfl,by rw[HS.out];exact HB3.out⟩
       · rcases e16 with rfl | rfl
         all_goals
          have HN:=hid (HD.out.trans (show _=decide (0<sN num) by simp[hnm,hin]))
          go_wp2_with fail
          refine hi2.mono ?_;rintro e w3 ⟨rfl,hb3⟩;have hg3:=A0 num w3 hs (HE.out.far hb3);have c3':=(hb3.cell (p:=⟨S,3,none⟩) hl).trans c3;have HB3:=hid (HB.out.trans (hb3.mono hS2));have hS3:=aP hS2 hb3.size;clear hb3
          go_wp2_with fail
          refine hg3.mono ?_;rintro e w4 ⟨rfl,hb4⟩;have HB4:=hid (HB3.out.trans (hb4.mono hS3));clear hb4
          go_wp2
          go_ret
          exact ⟨by rw[HN.out];rfl,by rw[HS.out];exact HB4.out⟩
   · have e0:(sort==0)=false:=by simp[s0]
     rcases e16 with rfl | rfl
     all_goals
      have HN:=hid (HD.out.trans (show _=false by simp[s0]))
      go_wp2
      go_ret
      exact ⟨by rw[HN.out];rfl,by rw[HS.out];exact HB.out⟩
 have HD:Hid (fpF ⟨op,sort,name,num,kids⟩=(sort==0 && (name.toList.isEmpty && num.toList.isEmpty))):=hid (by rw[HG.out];unfold fdF;simp only;rw[aB e3,aB e4,aB e16]);have g3:(op==3)=false:=by simp;omega
 have g4:(op==4)=false:=by simp;omega
 have g5:(op==5)=false:=by simp;omega
 have g16:(op==16)=false:=by simp;omega
 have g17:(op==17)=false:=by simp;omega
 clear HG e3 e4 e16
 by_cases s0:sort=0
 · subst s0;cases hnm:name.toList.isEmpty
   · have HN:=hid (HD.out.trans (show _=false by simp[hnm]))
     go_wp2
     go_ret
     exact ⟨by rw[HN.out];rfl,by rw[HS.out];exact HB.out⟩
   · have HN:=hid (HD.out.trans (show _=num.toList.isEmpty by simp[hnm]))
     go_wp2
     go_ret
     exact ⟨by rw[HN.out];rfl,by rw[HS.out];exact HB.out⟩
 · have e0:(sort==0)=false:=by simp[s0]
   have HN:=hid (HD.out.trans (show _=false by simp[s0]))
   go_wp2
   go_ret
   exact ⟨by rw[HN.out];rfl,by rw[HS.out];exact HB.out⟩
end Go.Proofs.YtpkfnnkbfphfbaaGreatDoor.Se

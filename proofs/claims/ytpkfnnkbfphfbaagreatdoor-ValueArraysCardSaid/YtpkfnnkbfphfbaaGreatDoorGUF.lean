/- Names: term.IsName and the reference's Name at any text. -/
import Derived.Test.YtpkfnnkbfphfbaaGreatDoorGNV
import Derived.Test.YtpkfnnkbfphfbaaGreatDoorGUE
set_option maxRecDepth 100000
set_option maxHeartbeats 40000000
namespace Go.Proofs.YtpkfnnkbfphfbaaGreatDoor
open Go.RowKit Nmx

def isLz (c:Int):Bool:=(decide (97≤c) && decide (c≤122)) || (decide (65≤c) && decide (c≤90))
def isDz (c:Int):Bool:=decide (48≤c) && decide (c≤57)
def fstC (c:Int):Bool:=isLz c || c==95 || c==36 || c==33
def sndC (c:Int):Bool:=isDz c || c==46 || c==64
def okC (i:Nat) (c:Int):Bool:=fstC c || (!(i==0) && sndC c)
def resL:List (List UInt8):=[[97,110,100],[111,114],[110,111,116],[105,116,101],[116,114,117,101],[102,97,108,115,101],[108,101,116],[102,111,114,97,108,108],[101,120,105,115,116,115],[100,105,115,116,105,110,99,116],[100,105,118],[109,111,100],[115,101,108,101,99,116],[115,116,111,114,101],[99,111,110,115,116],[66,111,111,108],[73,110,116],[82,101,97,108],[65,114,114,97,121]]
section
theorem isLetter_any (c:Int) (w:World):Calls Tryz.prog 192 #[.int .u8 c] w fun e w'=>e=.returned (.bool (isLz c))∧w'=w:=by
  by_cases h1:97≤c <;> by_cases h2:c≤122 <;> by_cases h3:65≤c <;> by_cases h4:c≤90
  all_goals
    go_enter Tryz.func192,Tryz.ntmps192
    go_wp2
    go_ret
    refine ⟨?_,rfl⟩
    simp[isLz,h1,h2,h3,h4]
theorem isDigit_any (c:Int) (w:World):Calls Tryz.prog 193 #[.int .u8 c] w fun e w'=>e=.returned (.bool (isDz c))∧w'=w:=by
  by_cases h1:48≤c <;> by_cases h2:c≤57
  all_goals
    go_enter Tryz.func193,Tryz.ntmps193
    go_wp2
    go_ret
    refine ⟨?_,rfl⟩
    simp[isDz,h1,h2]
def resF (l:List UInt8):Bool:=resL.any fun x=>l==x
theorem isReserved_any (s:ByteArray) (w:World):Calls Tryz.prog 191 #[.string s] w fun e w'=>e=.returned (.bool (resF s.toList))∧w'=w:=by
  go_enter Tryz.func191,Tryz.ntmps191
  go_wp2
  all_goals
    first
      | (go_ret;refine ⟨?_,rfl⟩;simp[resF,resL, *];done)
      | (exfalso;simp_all;done)
end
end Go.Proofs.YtpkfnnkbfphfbaaGreatDoor
/- Names, the second part. -/
namespace Go.Proofs.YtpkfnnkbfphfbaaGreatDoor
open Go.RowKit Nmx

def nameF (l:List UInt8):Bool:= !l.isEmpty && decide (l.length≤40) && !resF l && (List.range l.length).all fun i=>okC i ((l.getD i 0).toNat:Int)
theorem list_len (s:ByteArray):s.toList.length=s.size:=by rw[ByteArray.toList_eq];exact size_data s
theorem list_at {s:ByteArray} {k:Nat} (h:k<s.size):s.toList.getD k 0=s[k]:=by
  rw[ByteArray.toList_eq,List.getD_eq_getElem?_getD,List.getElem?_eq_getElem (by rw[size_data];exact h)]
  rfl
theorem okC_take {s:ByteArray} {k:Nat} (h:k<s.size) (ha:∀j,j<k→okC j ((s.toList.getD j 0).toNat:Int)=true) (hk:okC k ((s[k].toNat:Int))=true):∀j,j<k+1→okC j ((s.toList.getD j 0).toNat:Int)=true:=fun j hj=>by
  by_cases e:j=k
  · subst e;rw[list_at h];exact hk
  · exact ha j (by omega)
theorem nameF_no {s:ByteArray} {k:Nat} (h:k<s.size) (hk:okC k ((s[k].toNat:Int))=false):nameF s.toList=false:=by
  have:((List.range s.toList.length).all fun i=>okC i ((s.toList.getD i 0).toNat:Int))=false:=by
    refine Bool.eq_false_iff.2 fun e=>?_
    have:=List.all_eq_true.1 e k (List.mem_range.2 (by rw[list_len];exact h))
    rw[list_at h,hk] at this
    cases this
  unfold nameF
  rw[this,Bool.and_false]
theorem nameF_yes {s:ByteArray} {k:Nat} (h0:s.toList≠[]) (h1:¬40<s.size) (hr:resF s.toList=false) (hk:s.size≤k) (ha:∀j,j<k→okC j ((s.toList.getD j 0).toNat:Int)=true):nameF s.toList=true:=by
  have:((List.range s.toList.length).all fun i=>okC i ((s.toList.getD i 0).toNat:Int))=true:=
    List.all_eq_true.2 fun j hj=>ha j (by have:=List.mem_range.1 hj;rw[list_len] at this;omega)
  unfold nameF
  rw[this,hr,list_len,decide_eq_true (by omega)]
  cases h:s.toList with
  | nil=>exact absurd h h0
  | cons _ _=>rfl
section
theorem isName_any (s:ByteArray) (w:World):Calls Tryz.prog 154 #[.string s] w fun e w'=>e=.returned (.bool (nameF s.toList))∧w'=w:=by
  by_cases h0:s.toList=[]
  · have h0':s.toList.isEmpty=true:=by rw[h0];rfl
    have HR:Hid (nameF s.toList=false):=Lib.hid (by unfold nameF;rw[h0'];rfl)
    go_enter Tryz.func154,Tryz.ntmps154
    go_wp2
    go_ret
    exact ⟨ret_bool HR.out.symm,rfl⟩
  have h0':s.toList.isEmpty=false:=by
    cases h:s.toList with
    | nil=>exact absurd h h0
    | cons _ _=>rfl
  by_cases h1:40<s.size
  · have h1':(40:Int)<(s.size:Int):=by omega
    have HR:Hid (nameF s.toList=false):=Lib.hid (by unfold nameF;rw[list_len,decide_eq_false (by omega),Bool.and_false];rfl)
    go_enter Tryz.func154,Tryz.ntmps154
    go_wp2
    go_ret
    exact ⟨ret_bool HR.out.symm,rfl⟩
  have h1':¬(40:Int)<(s.size:Int):=by omega
  by_cases hr:resF s.toList=true
  · have HR:Hid (nameF s.toList=false):=Lib.hid (by unfold nameF;rw[hr,Bool.not_true,Bool.and_false];rfl)
    go_enter Tryz.func154,Tryz.ntmps154
    go_wp2_with (go_at_call 191;refine (isReserved_any _ _).mono ?_;rintro e w1 ⟨rfl,rfl⟩)
    go_ret
    exact ⟨ret_bool HR.out.symm,rfl⟩
  replace hr:resF s.toList=false:=by simpa using hr
  go_enter Tryz.func154,Tryz.ntmps154
  go_wp2_with (go_at_call 191;refine (isReserved_any _ _).mono ?_;rintro e w1 ⟨rfl,rfl⟩)
  go_loop [3] (fun iv=>∃k:Nat,k≤s.size∧iv=.int .i64 k∧∀j,j<k→okC j ((s.toList.getD j 0).toNat:Int)=true) (fun iv=>s.size-(intOf iv).toNat)
  case atStart=>exact ⟨0,Nat.zero_le _,rfl,fun j hj=>absurd hj (Nat.not_lt_zero j)⟩
  case round=>
    obtain ⟨k,hk,rfl,ha⟩:=hrel
    have HA:=Lib.hid ha
    clear ha
    by_cases hlt:k<s.size
    · skip
      by_cases hL:isLz (s[k].toNat:Int)=true
      · have HD:=Lib.hid (okC_take hlt HA.out (by simp[okC,fstC,sndC,hL]))
        go_wp2_with (first | (go_at_call 192;refine (isLetter_any _ _).mono ?_;rintro e w2 ⟨rfl,rfl⟩) | (go_at_call 193;refine (isDigit_any _ _).mono ?_;rintro e w2 ⟨rfl,rfl⟩))
        go_round
        case rel=>exact ⟨k+1,by omega,by go_num,HD.out⟩
        case measure=>simp[intOf];omega
      · replace hL:isLz (s[k].toNat:Int)=false:=by simpa using hL
        by_cases h95:(s[k].toNat:Int)=95
        · have q95:((s[k].toNat:Int)==95)=true:=by rw[beq_iff_eq];omega
          have d95:decide ((s[k].toNat:Int)=95)=true:=decide_eq_true (by omega)
          clear h95
          have HD:=Lib.hid (okC_take hlt HA.out (by simp[okC,fstC,sndC,hL,q95]))
          go_wp2_with (first | (go_at_call 192;refine (isLetter_any _ _).mono ?_;rintro e w2 ⟨rfl,rfl⟩) | (go_at_call 193;refine (isDigit_any _ _).mono ?_;rintro e w2 ⟨rfl,rfl⟩))
          go_round
          case rel=>exact ⟨k+1,by omega,by go_num,HD.out⟩
          case measure=>simp[intOf];omega
        · have q95:((s[k].toNat:Int)==95)=false:=by rw[beq_eq_false_iff_ne];omega
          have d95:decide ((s[k].toNat:Int)=95)=false:=decide_eq_false (by omega)
          by_cases h36:(s[k].toNat:Int)=36
          · have q36:((s[k].toNat:Int)==36)=true:=by rw[beq_iff_eq];omega
            have d36:decide ((s[k].toNat:Int)=36)=true:=decide_eq_true (by omega)
            clear h36
            have HD:=Lib.hid (okC_take hlt HA.out (by simp[okC,fstC,sndC,hL,q95,q36]))
            go_wp2_with (first | (go_at_call 192;refine (isLetter_any _ _).mono ?_;rintro e w2 ⟨rfl,rfl⟩) | (go_at_call 193;refine (isDigit_any _ _).mono ?_;rintro e w2 ⟨rfl,rfl⟩))
            go_round
            case rel=>exact ⟨k+1,by omega,by go_num,HD.out⟩
            case measure=>simp[intOf];omega
          · have q36:((s[k].toNat:Int)==36)=false:=by rw[beq_eq_false_iff_ne];omega
            have d36:decide ((s[k].toNat:Int)=36)=false:=decide_eq_false (by omega)
            by_cases h33:(s[k].toNat:Int)=33
            · have q33:((s[k].toNat:Int)==33)=true:=by rw[beq_iff_eq];omega
              have d33:decide ((s[k].toNat:Int)=33)=true:=decide_eq_true (by omega)
              clear h33
              have HD:=Lib.hid (okC_take hlt HA.out (by simp[okC,fstC,sndC,hL,q95,q36,q33]))
              go_wp2_with (first | (go_at_call 192;refine (isLetter_any _ _).mono ?_;rintro e w2 ⟨rfl,rfl⟩) | (go_at_call 193;refine (isDigit_any _ _).mono ?_;rintro e w2 ⟨rfl,rfl⟩))
              go_round
              case rel=>exact ⟨k+1,by omega,by go_num,HD.out⟩
              case measure=>simp[intOf];omega
            · have q33:((s[k].toNat:Int)==33)=false:=by rw[beq_eq_false_iff_ne];omega
              have d33:decide ((s[k].toNat:Int)=33)=false:=decide_eq_false (by omega)
              by_cases hk:k=0
              · subst hk
                have HR:Hid (nameF s.toList=false):=Lib.hid (nameF_no hlt (by simp[okC,fstC,sndC,hL,q95,q36,q33]))
                go_wp2_with (first | (go_at_call 192;refine (isLetter_any _ _).mono ?_;rintro e w2 ⟨rfl,rfl⟩) | (go_at_call 193;refine (isDigit_any _ _).mono ?_;rintro e w2 ⟨rfl,rfl⟩))
                go_ret
                exact ⟨ret_bool HR.out.symm,rfl⟩
              · have hk0:(k==0)=false:=by rw[beq_eq_false_iff_ne];exact hk
                have hki:((k:Int)==0)=false:=by rw[beq_eq_false_iff_ne];omega
                have hkd:decide ((k:Int)=0)=false:=decide_eq_false (by omega)
                by_cases hD:isDz (s[k].toNat:Int)=true
                · skip
                  have HD:=Lib.hid (okC_take hlt HA.out (by simp[okC,fstC,sndC,hL,hD,hk0]))
                  go_wp2_with (first | (go_at_call 192;refine (isLetter_any _ _).mono ?_;rintro e w2 ⟨rfl,rfl⟩) | (go_at_call 193;refine (isDigit_any _ _).mono ?_;rintro e w2 ⟨rfl,rfl⟩))
                  go_round
                  case rel=>exact ⟨k+1,by omega,by go_num,HD.out⟩
                  case measure=>simp[intOf];omega
                · have hD':isDz (s[k].toNat:Int)=false:=by simpa using hD
                  clear hD
                  by_cases h46:(s[k].toNat:Int)=46
                  · have q46:((s[k].toNat:Int)==46)=true:=by rw[beq_iff_eq];omega
                    have d46:decide ((s[k].toNat:Int)=46)=true:=decide_eq_true (by omega)
                    have n46:((s[k].toNat:Int) !=46)=false:=by rw[bne,q46];rfl
                    clear h46
                    have HD:=Lib.hid (okC_take hlt HA.out (by simp[okC,fstC,sndC,hL,hD',q46,hk0]))
                    go_wp2_with (first | (go_at_call 192;refine (isLetter_any _ _).mono ?_;rintro e w2 ⟨rfl,rfl⟩) | (go_at_call 193;refine (isDigit_any _ _).mono ?_;rintro e w2 ⟨rfl,rfl⟩))
                    go_round
                    case rel=>exact ⟨k+1,by omega,by go_num,HD.out⟩
                    case measure=>simp[intOf];omega
                  · have q46:((s[k].toNat:Int)==46)=false:=by rw[beq_eq_false_iff_ne];omega
                    have d46:decide ((s[k].toNat:Int)=46)=false:=decide_eq_false (by omega)
                    have n46:((s[k].toNat:Int) !=46)=true:=by rw[bne,q46];rfl
                    by_cases h64:(s[k].toNat:Int)=64
                    · have q64:((s[k].toNat:Int)==64)=true:=by rw[beq_iff_eq];omega
                      have d64:decide ((s[k].toNat:Int)=64)=true:=decide_eq_true (by omega)
                      have n64:((s[k].toNat:Int) !=64)=false:=by rw[bne,q64];rfl
                      clear h64
                      have HD:=Lib.hid (okC_take hlt HA.out (by simp[okC,fstC,sndC,hL,hD',q64,hk0]))
                      go_wp2_with (first | (go_at_call 192;refine (isLetter_any _ _).mono ?_;rintro e w2 ⟨rfl,rfl⟩) | (go_at_call 193;refine (isDigit_any _ _).mono ?_;rintro e w2 ⟨rfl,rfl⟩))
                      go_round
                      case rel=>exact ⟨k+1,by omega,by go_num,HD.out⟩
                      case measure=>simp[intOf];omega
                    · have q64:((s[k].toNat:Int)==64)=false:=by rw[beq_eq_false_iff_ne];omega
                      have d64:decide ((s[k].toNat:Int)=64)=false:=decide_eq_false (by omega)
                      have n64:((s[k].toNat:Int) !=64)=true:=by rw[bne,q64];rfl
                      have HR:Hid (nameF s.toList=false):=Lib.hid (nameF_no hlt (by simp[okC,fstC,sndC,hL,q95,q36,q33,hD',q46,q64]))
                      go_wp2_with (first | (go_at_call 192;refine (isLetter_any _ _).mono ?_;rintro e w2 ⟨rfl,rfl⟩) | (go_at_call 193;refine (isDigit_any _ _).mono ?_;rintro e w2 ⟨rfl,rfl⟩))
                      go_ret
                      exact ⟨ret_bool HR.out.symm,rfl⟩
    · have HR:Hid (nameF s.toList=true):=Lib.hid (nameF_yes h0 h1 hr (by omega) HA.out)
      have hlt':¬((k:Int)<(s.size:Int)):=by omega
      go_wp2
      go_ret
      exact ⟨ret_bool HR.out.symm,rfl⟩
end
end Go.Proofs.YtpkfnnkbfphfbaaGreatDoor
/- The fields that a node may have. -/
namespace Go.Proofs.YtpkfnnkbfphfbaaGreatDoor.Se
open Go.RowKit Nmx

def vN (t:ByteArray):Bool:=(ratF t.data.toList).isSome
def iN (t:ByteArray):Bool:=match ratF t.data.toList with | some q=>decide (q.den=1) | none=>false
def sN (t:ByteArray):Int:=sgnI ((ratF t.data.toList).getD 0).num
def srF (s:Int):Bool:=decide (1≤s) && decide (s≤4)
def fdF (x:Nd):Bool:=
  if x.op=3 then (x.sort==2 || x.sort==3) && (x.name.toList.isEmpty && (vN x.num && (x.sort==3 || iN x.num)))
  else if x.op=4∨x.op=5 then srF x.sort && (nameF x.name.toList && x.num.toList.isEmpty)
  else if x.op=16∨x.op=17 then x.sort==0 && (x.name.toList.isEmpty && (iN x.num && decide (0<sN x.num)))
  else x.sort==0 && (x.name.toList.isEmpty && x.num.toList.isEmpty)
def fpF (x:Nd):Bool:=decide (1≤x.op) && (decide (x.op≤20) && (decide ((arF x.op).1≤x.kids) && (decide (x.kids≤(arF x.op).2) && fdF x)))
section
theorem valid_q (t:ByteArray) (w:World) (hs:t.size≤1000) (h:Env w):Calls Tryz.prog 33 #[.string t] w fun e w'=>e=.returned (.bool (vN t))∧Below w.heap.size w w':=
  numValid_any t w (by omega) h (gcdAt_any (by rw[size_data];omega))
theorem isInt_q (t:ByteArray) (w:World) (hs:t.size≤1000) (h:Env w):Calls Tryz.prog 32 #[.string t] w fun e w'=>e=.returned (.bool (iN t))∧Below w.heap.size w w':=
  numIsInt_any t w (by omega) h (gcdAt_any (by rw[size_data];omega))
theorem sign_q (t:ByteArray) (w:World) (hs:t.size≤1000) (h:Env w):Calls Tryz.prog 155 #[.string t] w fun e w'=>e=.returned (.int .i64 (sN t))∧Below w.heap.size w w':=
  numSign_any t w (by omega) h (gcdAt_any (by rw[size_data];omega))
theorem fieldsPermitted_any (x:Nd) (w:World) (hs:x.num.size≤1000) (h:Env w):
    Calls Tryz.prog 111 #[x.val] w fun e w'=>e=.returned (.bool (fpF x))∧Below w.heap.size w w':=by
  obtain ⟨op,sort,name,num,kids⟩:=x
  unfold Nd.val
  simp only at hs
  have hbw:Below w.heap.size w (w.alloc (.cells #[.int .i64 op,.int .i64 sort,.string name,.string num,.int .i64 kids] 57)):=(Below.refl _ _).alloc (Nat.le_refl _) _
  have HE:=Lib.hid (h.far hbw)
  have hl:w.heap.size<(w.alloc (.cells #[.int .i64 op,.int .i64 sort,.string name,.string num,.int .i64 kids] 57)).heap.size:=by simp
  have HB:=Lib.hid hbw
  have c0:(w.alloc (.cells #[.int .i64 op,.int .i64 sort,.string name,.string num,.int .i64 kids] 57)).cell? ⟨w.heap.size,0,none⟩=some (.int .i64 op):=by rw[World.cell?_alloc_at _ _ _ _ rfl];rfl
  have c1:(w.alloc (.cells #[.int .i64 op,.int .i64 sort,.string name,.string num,.int .i64 kids] 57)).cell? ⟨w.heap.size,1,none⟩=some (.int .i64 sort):=by rw[World.cell?_alloc_at _ _ _ _ rfl];rfl
  have c2:(w.alloc (.cells #[.int .i64 op,.int .i64 sort,.string name,.string num,.int .i64 kids] 57)).cell? ⟨w.heap.size,2,none⟩=some (.string name):=by rw[World.cell?_alloc_at _ _ _ _ rfl];rfl
  have c3:(w.alloc (.cells #[.int .i64 op,.int .i64 sort,.string name,.string num,.int .i64 kids] 57)).cell? ⟨w.heap.size,3,none⟩=some (.string num):=by rw[World.cell?_alloc_at _ _ _ _ rfl];rfl
  have c4:(w.alloc (.cells #[.int .i64 op,.int .i64 sort,.string name,.string num,.int .i64 kids] 57)).cell? ⟨w.heap.size,4,none⟩=some (.int .i64 kids):=by rw[World.cell?_alloc_at _ _ _ _ rfl];rfl
  have ha:=arity_any op (w.alloc (.cells #[.int .i64 op,.int .i64 sort,.string name,.string num,.int .i64 kids] 57))
  have HF:Hid (fpF ⟨op,sort,name,num,kids⟩=(decide (1≤op) && (decide (op≤20) && (decide ((arF op).1≤kids) && (decide (kids≤(arF op).2) && fdF ⟨op,sort,name,num,kids⟩))))):=Lib.hid rfl
  clear hbw h
  go_enter Tryz.func111,Tryz.ntmps111
  go_wp2_with fail
  generalize w.alloc (.cells #[.int .i64 op,.int .i64 sort,.string name,.string num,.int .i64 kids] 57)=w1 at *
  refine ha.mono ?_
  rintro e w2 ⟨rfl,rfl⟩
  clear ha
  generalize hlo:(arF op).1=lo at *
  generalize hhi:(arF op).2=hi at *
  clear hlo hhi
  generalize hS:w.heap.size=S at *
  have HS:=Lib.hid hS
  have hS2:S≤w2.heap.size:=Nat.le_of_lt hl
  clear hS
  by_cases h1:op<1
  · have HN:Hid (fpF ⟨op,sort,name,num,kids⟩=false):=Lib.hid (by rw[HF.out,decide_eq_false (by omega)];rfl)
    go_wp2
    go_ret
    exact ⟨by rw[HN.out];rfl,by rw[HS.out];exact HB.out⟩
  by_cases h2:20<op
  · have HN:Hid (fpF ⟨op,sort,name,num,kids⟩=false):=Lib.hid (by rw[HF.out,decide_eq_false (p:=op≤20) (by omega)];simp)
    go_wp2
    go_ret
    exact ⟨by rw[HN.out];rfl,by rw[HS.out];exact HB.out⟩
  by_cases h3:kids<lo
  · have HN:Hid (fpF ⟨op,sort,name,num,kids⟩=false):=Lib.hid (by rw[HF.out,decide_eq_false (p:=lo≤kids) (by omega)];simp)
    go_wp2
    go_ret
    exact ⟨by rw[HN.out];rfl,by rw[HS.out];exact HB.out⟩
  by_cases h4:hi<kids
  · have HN:Hid (fpF ⟨op,sort,name,num,kids⟩=false):=Lib.hid (by rw[HF.out,decide_eq_false (p:=kids≤hi) (by omega)];simp)
    go_wp2
    go_ret
    exact ⟨by rw[HN.out];rfl,by rw[HS.out];exact HB.out⟩
  have HG:Hid (fpF ⟨op,sort,name,num,kids⟩=fdF ⟨op,sort,name,num,kids⟩):=Lib.hid (by rw[HF.out,decide_eq_true (by omega),decide_eq_true (by omega),decide_eq_true (by omega),decide_eq_true (by omega)];simp)
  clear HF
  have hq1:1≤op:=by omega
  have hq2:op≤20:=by omega
  by_cases e3:op=3
  · subst e3
    have HD:Hid (fpF ⟨3,sort,name,num,kids⟩=((sort==2 || sort==3) && (name.toList.isEmpty && (vN num && (sort==3 || iN num))))):=Lib.hid (by rw[HG.out];rfl)
    clear HG
    have hv:=valid_q num w2 hs HE.out
    by_cases s3:sort=3
    · subst s3
      cases hnm:name.toList.isEmpty
      · have HN:Hid (fpF ⟨3,3,name,num,kids⟩=false):=Lib.hid (by rw[HD.out];simp[hnm])
        go_wp2
        go_ret
        exact ⟨by rw[HN.out];rfl,by rw[HS.out];exact HB.out⟩
      · cases hvn:vN num
        all_goals rw[hvn] at hv
        · go_wp2_with fail
          refine hv.mono ?_
          rintro e w3 ⟨rfl,hb3⟩
          have HB3:=Lib.hid (HB.out.trans (hb3.mono hS2))
          have hS3:=Nat.le_trans hS2 hb3.size
          have HEHB3:=Lib.hid (HE.out.far hb3)
          have d1:=(hb3.cell (p:=⟨S,1,none⟩) hl).trans c1
          have d3:=(hb3.cell (p:=⟨S,3,none⟩) hl).trans c3
          clear hb3
          have HN:Hid (fpF ⟨3,3,name,num,kids⟩=false):=Lib.hid (by rw[HD.out];simp[hnm,hvn])
          go_wp2
          go_ret
          exact ⟨by rw[HN.out];rfl,by rw[HS.out];exact HB3.out⟩
        · go_wp2_with fail
          refine hv.mono ?_
          rintro e w3 ⟨rfl,hb3⟩
          have HB3:=Lib.hid (HB.out.trans (hb3.mono hS2))
          have hS3:=Nat.le_trans hS2 hb3.size
          have HEHB3:=Lib.hid (HE.out.far hb3)
          have d1:=(hb3.cell (p:=⟨S,1,none⟩) hl).trans c1
          have d3:=(hb3.cell (p:=⟨S,3,none⟩) hl).trans c3
          clear hb3
          have HN:Hid (fpF ⟨3,3,name,num,kids⟩=true):=Lib.hid (by rw[HD.out];simp[hnm,hvn])
          go_wp2
          go_ret
          exact ⟨by rw[HN.out];rfl,by rw[HS.out];exact HB3.out⟩
    · by_cases s2:sort=2
      · subst s2
        cases hnm:name.toList.isEmpty
        · have HN:Hid (fpF ⟨3,2,name,num,kids⟩=false):=Lib.hid (by rw[HD.out];simp[hnm])
          go_wp2
          go_ret
          exact ⟨by rw[HN.out];rfl,by rw[HS.out];exact HB.out⟩
        · cases hvn:vN num
          all_goals rw[hvn] at hv
          · go_wp2_with fail
            refine hv.mono ?_
            rintro e w3 ⟨rfl,hb3⟩
            have HB3:=Lib.hid (HB.out.trans (hb3.mono hS2))
            have hS3:=Nat.le_trans hS2 hb3.size
            have HEHB3:=Lib.hid (HE.out.far hb3)
            have d1:=(hb3.cell (p:=⟨S,1,none⟩) hl).trans c1
            have d3:=(hb3.cell (p:=⟨S,3,none⟩) hl).trans c3
            clear hb3
            have HN:Hid (fpF ⟨3,2,name,num,kids⟩=false):=Lib.hid (by rw[HD.out];simp[hnm,hvn])
            go_wp2
            go_ret
            exact ⟨by rw[HN.out];rfl,by rw[HS.out];exact HB3.out⟩
          · go_wp2_with fail
            refine hv.mono ?_
            rintro e w3 ⟨rfl,hb3⟩
            have HB3:=Lib.hid (HB.out.trans (hb3.mono hS2))
            have hS3:=Nat.le_trans hS2 hb3.size
            have HEHB3:=Lib.hid (HE.out.far hb3)
            have d1:=(hb3.cell (p:=⟨S,1,none⟩) hl).trans c1
            have d3:=(hb3.cell (p:=⟨S,3,none⟩) hl).trans c3
            clear hb3
            have hi2:=isInt_q num w3 hs HEHB3.out
            cases hin:iN num
            all_goals rw[hin] at hi2
            · go_wp2_with fail
              refine hi2.mono ?_
              rintro e w4 ⟨rfl,hb4⟩
              have HB4:=Lib.hid (HB3.out.trans (hb4.mono hS3))
              have hS4:=Nat.le_trans hS3 hb4.size
              have HEHB4:=Lib.hid (HEHB3.out.far hb4)
              clear hb4
              have HN:Hid (fpF ⟨3,2,name,num,kids⟩=false):=Lib.hid (by rw[HD.out];simp[hnm,hvn,hin])
              go_wp2
              go_ret
              exact ⟨by rw[HN.out];rfl,by rw[HS.out];exact HB4.out⟩
            · go_wp2_with fail
              refine hi2.mono ?_
              rintro e w4 ⟨rfl,hb4⟩
              have HB4:=Lib.hid (HB3.out.trans (hb4.mono hS3))
              have hS4:=Nat.le_trans hS3 hb4.size
              have HEHB4:=Lib.hid (HEHB3.out.far hb4)
              clear hb4
              have HN:Hid (fpF ⟨3,2,name,num,kids⟩=true):=Lib.hid (by rw[HD.out];simp[hnm,hvn,hin])
              go_wp2
              go_ret
              exact ⟨by rw[HN.out];rfl,by rw[HS.out];exact HB4.out⟩
      · have e2:(sort==2)=false:=by simp[s2]
        have e3:(sort==3)=false:=by simp[s3]
        have HN:Hid (fpF ⟨3,sort,name,num,kids⟩=false):=Lib.hid (by rw[HD.out];simp[s2,s3])
        go_wp2
        go_ret
        exact ⟨by rw[HN.out];rfl,by rw[HS.out];exact HB.out⟩
  by_cases e4:op=4∨op=5
  · have HD:Hid (fpF ⟨op,sort,name,num,kids⟩=(srF sort && (nameF name.toList && num.toList.isEmpty))):=Lib.hid (by rw[HG.out];unfold fdF;simp only;rw[if_neg e3,if_pos e4])
    clear HG e3
    have hsr:=isSort_any sort w2
    rw[show (decide (1≤sort) && decide (sort≤4))=srF sort from rfl] at hsr
    have hnm:=isName_any name w2
    cases h5:srF sort
    all_goals rw[h5] at hsr
    · rcases e4 with rfl | rfl
      all_goals
        go_wp2_with fail
        refine hsr.mono ?_
        rintro e w3 ⟨rfl,rfl⟩
        have HN:=Lib.hid (HD.out.trans (show _=false by simp[h5]))
        go_wp2
        go_ret
        exact ⟨by rw[HN.out];rfl,by rw[HS.out];exact HB.out⟩
    · cases h6:nameF name.toList
      all_goals rw[h6] at hnm
      · rcases e4 with rfl | rfl
        all_goals
          go_wp2_with fail
          refine hsr.mono ?_
          rintro e w3 ⟨rfl,rfl⟩
          go_wp2_with fail
          refine hnm.mono ?_
          rintro e w3 ⟨rfl,rfl⟩
          have HN:=Lib.hid (HD.out.trans (show _=false by simp[h5,h6]))
          go_wp2
          go_ret
          exact ⟨by rw[HN.out];rfl,by rw[HS.out];exact HB.out⟩
      · rcases e4 with rfl | rfl
        all_goals
          go_wp2_with fail
          refine hsr.mono ?_
          rintro e w3 ⟨rfl,rfl⟩
          go_wp2_with fail
          refine hnm.mono ?_
          rintro e w3 ⟨rfl,rfl⟩
          have HN:=Lib.hid (HD.out.trans (show _=num.toList.isEmpty by simp only[h5,h6,Bool.true_and]))
          go_wp2
          go_ret
          exact ⟨by rw[HN.out];rfl,by rw[HS.out];exact HB.out⟩
  by_cases e16:op=16∨op=17
  · have HD:Hid (fpF ⟨op,sort,name,num,kids⟩=(sort==0 && (name.toList.isEmpty && (iN num && decide (0<sN num))))):=Lib.hid (by rw[HG.out];unfold fdF;simp only;rw[if_neg e3,if_neg e4,if_pos e16])
    clear HG e3 e4
    have hi2:=isInt_q num w2 hs HE.out
    by_cases s0:sort=0
    · subst s0
      cases hnm:name.toList.isEmpty
      · rcases e16 with rfl | rfl
        all_goals
          have HN:=Lib.hid (HD.out.trans (show _=false by simp[hnm]))
          go_wp2
          go_ret
          exact ⟨by rw[HN.out];rfl,by rw[HS.out];exact HB.out⟩
      · cases hin:iN num
        all_goals rw[hin] at hi2
        · rcases e16 with rfl | rfl
          all_goals
            have HN:=Lib.hid (HD.out.trans (show _=false by simp[hnm,hin]))
            go_wp2_with fail
            refine hi2.mono ?_
            rintro e w3 ⟨rfl,hb3⟩
            have HB3:=Lib.hid (HB.out.trans (hb3.mono hS2))
            clear hb3
            go_wp2
            go_ret
            exact ⟨by rw[HN.out];rfl,by rw[HS.out];exact HB3.out⟩
        · rcases e16 with rfl | rfl
          all_goals
            have HN:=Lib.hid (HD.out.trans (show _=decide (0<sN num) by simp[hnm,hin]))
            go_wp2_with fail
            refine hi2.mono ?_
            rintro e w3 ⟨rfl,hb3⟩
            have hg3:=sign_q num w3 hs (HE.out.far hb3)
            have c3':=(hb3.cell (p:=⟨S,3,none⟩) hl).trans c3
            have HB3:=Lib.hid (HB.out.trans (hb3.mono hS2))
            have hS3:=Nat.le_trans hS2 hb3.size
            clear hb3
            go_wp2_with fail
            refine hg3.mono ?_
            rintro e w4 ⟨rfl,hb4⟩
            have HB4:=Lib.hid (HB3.out.trans (hb4.mono hS3))
            clear hb4
            go_wp2
            go_ret
            exact ⟨by rw[HN.out];rfl,by rw[HS.out];exact HB4.out⟩
    · have e0:(sort==0)=false:=by simp[s0]
      rcases e16 with rfl | rfl
      all_goals
        have HN:=Lib.hid (HD.out.trans (show _=false by simp[s0]))
        go_wp2
        go_ret
        exact ⟨by rw[HN.out];rfl,by rw[HS.out];exact HB.out⟩
  have HD:Hid (fpF ⟨op,sort,name,num,kids⟩=(sort==0 && (name.toList.isEmpty && num.toList.isEmpty))):=Lib.hid (by rw[HG.out];unfold fdF;simp only;rw[if_neg e3,if_neg e4,if_neg e16])
  have g3:(op==3)=false:=by simp;omega
  have g4:(op==4)=false:=by simp;omega
  have g5:(op==5)=false:=by simp;omega
  have g16:(op==16)=false:=by simp;omega
  have g17:(op==17)=false:=by simp;omega
  clear HG e3 e4 e16
  by_cases s0:sort=0
  · subst s0
    cases hnm:name.toList.isEmpty
    · have HN:=Lib.hid (HD.out.trans (show _=false by simp[hnm]))
      go_wp2
      go_ret
      exact ⟨by rw[HN.out];rfl,by rw[HS.out];exact HB.out⟩
    · have HN:=Lib.hid (HD.out.trans (show _=num.toList.isEmpty by simp[hnm]))
      go_wp2
      go_ret
      exact ⟨by rw[HN.out];rfl,by rw[HS.out];exact HB.out⟩
  · have e0:(sort==0)=false:=by simp[s0]
    have HN:=Lib.hid (HD.out.trans (show _=false by simp[s0]))
    go_wp2
    go_ret
    exact ⟨by rw[HN.out];rfl,by rw[HS.out];exact HB.out⟩
end
end Go.Proofs.YtpkfnnkbfphfbaaGreatDoor.Se

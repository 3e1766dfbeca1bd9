/- Terms as forests: their ends, their sorts, their height. -/
import Derived.Test.YtpkfnnkbfphfbaaGreatDoorGUS
import Derived.Test.YtpkfnnkbfphfbaaGreatDoorGUF
import Derived.Test.YtpkfnnkbfphfbaaGreatDoorGRG
set_option maxRecDepth 100000
set_option maxHeartbeats 40000000
namespace Go.Proofs.YtpkfnnkbfphfbaaGreatDoor.Se
open Go.RowKit Nmx

structure NodeOk (x:Nd) (ks:List Nd) (ss:List Int) (s:Int):Prop where
  fp:fpF x=true
  kn:x.kids=ss.length
  rs:rsF x.op x.sort ss=(s,true)
  mul:x.op=15→(ks.getD 0 ndZ).op=3
inductive WE:Nat→Nat→List Nd→List Int→List Nat→List Int→Prop
  | nil (p d:Nat):WE p d [] [] [] []
  | cons {p d:Nat} {x:Nd} {ks rest:List Nd} {ss rs:List Int} {s:Int} {Ek Er:List Nat} {Sk Sr:List Int}:
      WE (p+1) d ks ss Ek Sk→NodeOk x ks ss s→WE (p+1+ks.length) (d+1) rest rs Er Sr→WE p (d+1) (x::(ks++rest)) (s::rs) ((p+1+ks.length)::(Ek++Er)) (s::(Sk++Sr))
theorem WE.lens {p d:Nat} {ts:List Nd} {ss:List Int} {E:List Nat} {S:List Int} (h:WE p d ts ss E S):E.length=ts.length∧S.length=ts.length∧ss.length≤ts.length:=by
  induction h with
  | nil=>exact ⟨rfl,rfl,Nat.le_refl _⟩
  | cons _ _ _ h1 h2=>simp only[List.length_cons,List.length_append];omega
theorem WE.up {p d:Nat} {ts:List Nd} {ss:List Int} {E:List Nat} {S:List Int} (h:WE p d ts ss E S):∀i,i<E.length→p+i<E.getD i 0∧E.getD i 0≤p+ts.length:=by
  induction h with
  | nil=>intro i hi;cases hi
  | @cons p d x ks rest ss rs s Ek Er Sk Sr hk hn hr ihk ihr=>
    have lk:=hk.lens
    have lr:=hr.lens
    intro i hi
    simp only[List.length_cons,List.length_append] at hi ⊢
    cases i with
    | zero=>simp only[List.getD_cons_zero];omega
    | succ i=>
      rw[List.getD_cons_succ]
      by_cases hlt:i<Ek.length
      · have:=ihk i hlt
        rw[List.getD_eq_getElem?_getD,List.getElem?_append_left hlt,←List.getD_eq_getElem?_getD]
        omega
      · have:=ihr (i-Ek.length) (by omega)
        rw[List.getD_eq_getElem?_getD,List.getElem?_append_right (by omega),←List.getD_eq_getElem?_getD]
        omega
def Agr {α:Type} (z:α) (b:Nat) (F:List α) (p:Nat) (E:List α):Prop:=∀i,i<E.length→F.getD (p+i-b) z=E.getD i z
theorem Agr.head {α:Type} {z:α} {b:Nat} {F:List α} {p:Nat} {e:α} {E:List α} (h:Agr z b F p (e::E)):F.getD (p-b) z=e:=by
  have:=h 0 (by simp)
  simpa using this
theorem Agr.tail {α:Type} {z:α} {b:Nat} {F:List α} {p:Nat} {e:α} {E:List α} (h:Agr z b F p (e::E)):Agr z b F (p+1) E:=fun i hi=>by
  have:=h (i+1) (by simpa using hi)
  rw[List.getD_cons_succ] at this
  rw[show p+1+i-b=p+(i+1)-b by omega];exact this
theorem Agr.left {α:Type} {z:α} {b:Nat} {F:List α} {p:Nat} {E1 E2:List α} (h:Agr z b F p (E1++E2)):Agr z b F p E1:=fun i hi=>by
  have:=h i (by rw[List.length_append];omega)
  rwa [List.getD_eq_getElem?_getD (l:=E1++E2),List.getElem?_append_left hi,←List.getD_eq_getElem?_getD] at this
theorem Agr.right {α:Type} {z:α} {b:Nat} {F:List α} {p:Nat} {E1 E2:List α} (h:Agr z b F p (E1++E2)):Agr z b F (p+E1.length) E2:=fun i hi=>by
  have:=h (E1.length+i) (by rw[List.length_append];omega)
  rw[List.getD_eq_getElem?_getD (l:=E1++E2),List.getElem?_append_right (by omega),←List.getD_eq_getElem?_getD,Nat.add_sub_cancel_left] at this
  rw[show p+E1.length+i-b=p+(E1.length+i)-b by omega];exact this
theorem WE.trail {p d:Nat} {ts:List Nd} {ss:List Int} {E:List Nat} {S:List Int} (h:WE p d ts ss E S):∀(F:List Nat) (G:List Int) (u:Nat),(∀j,j<u→j<F.getD j 0)→p+ts.length≤u→Agr 0 0 F p E→Agr 0 0 G p S→(Se.trail F p (p+ts.length)).map (G.getD · 0)=ss:=by
  induction h with
  | nil=>intro F G u _ _ _ _;rw[trail_stop (by simp)];rfl
  | @cons p d x ks rest ss rs s Ek Er Sk Sr hk hn hr ihk ihr=>
    intro F G u hu hl hF hG
    have lk:=hk.lens
    simp only[List.length_cons,List.length_append] at hl ⊢
    have e0:F.getD p 0=p+1+ks.length:=by have:=hF.head;simpa using this
    have g0:G.getD p 0=s:=by have:=hG.head;simpa using this
    rw[trail_step (fun j hj=>hu j (by omega)) (by omega) e0,List.map_cons,g0]
    have f2:=hF.tail.right
    have g2:=hG.tail.right
    rw[lk.1] at f2
    rw[lk.2.1] at g2
    have:=ihr F G u hu (by omega) f2 g2
    rw[show p+1+ks.length+rest.length=p+(ks.length+rest.length+1) by omega] at this
    rw[this]
theorem WE.srt {p d:Nat} {ts:List Nd} {ss:List Int} {E:List Nat} {S:List Int} (h:WE p d ts ss E S):∀(T:List Nd) (F:List Nat) (G Sc:List Int),(∀j,j<T.length→j<F.getD j 0)→F.length=T.length→p+ts.length≤T.length→Agr ndZ 0 T p ts→Agr 0 0 F p E→Agr 0 0 G p S→Sc.length=T.length→(∀j,p+ts.length≤j→j<T.length→Sc.getD j 0=G.getD j 0)→
    ∃Sc',Se.srt T F (p+ts.length) Sc=Se.srt T F p Sc'∧Sc'.length=T.length∧∀j,p≤j→j<T.length→Sc'.getD j 0=G.getD j 0:=by
  induction h with
  | nil=>intro T F G Sc _ _ _ _ _ _ hl hS;exact ⟨Sc,by simp,hl,fun j h1 h2=>hS j (by simpa using h1) h2⟩
  | @cons p d x ks rest ss rs s Ek Er Sk Sr hk hn hr ihk ihr=>
    intro T F G Sc hu hFl hle hT hF hG hl hS
    have lk:=hk.lens
    have lr:=hr.lens
    simp only[List.length_cons,List.length_append] at hle hS ⊢
    have f2:=hF.tail.right
    have g2:=hG.tail.right
    have t2:=hT.tail.right
    rw[lk.1] at f2
    rw[lk.2.1] at g2
    obtain ⟨S1,a1,a2,a3⟩:=ihr T F G Sc hu hFl (by omega) t2 f2 g2 hl (fun j h1 h2=>hS j (by omega) h2)
    obtain ⟨S2,b1,b2,b3⟩:=ihk T F G S1 hu hFl (by omega) hT.tail.left hF.tail.left hG.tail.left a2 (fun j h1 h2=>a3 j h1 h2)
    have e1:p+1+ks.length+rest.length=p+(ks.length+rest.length+1):=by omega
    rw[e1] at a1
    rw[a1,b1]
    have hx:T.getD p ndZ=x:=by have:=hT.head;simpa using this
    have hx1:x.op=15→(T.getD (p+1) ndZ).op=3:=fun h15=>by
      have hm:=hn.mul h15
      cases ks with
      | nil=>simp[ndZ] at hm
      | cons k ks=>
        have:=hT.tail.head
        have e:T.getD (p+1) ndZ=k:=by simpa using this
        rw[e];simpa using hm
    have e0:F.getD p 0=p+1+ks.length:=by have:=hF.head;simpa using this
    have g0:G.getD p 0=s:=by have:=hG.head;simpa using this
    have hgS:Agr 0 0 S2 (p+1) Sk:=fun i hi=>by
      have:=hG.tail.left i hi
      rw[Nat.sub_zero] at this ⊢
      rw[b3 (p+1+i) (by omega) (by omega)];exact this
    have hks:kidsS F S2 p=ss:=by
      unfold kidsS
      rw[e0]
      exact hk.trail F S2 T.length hu (by omega) hF.tail.left hgS
    refine ⟨S2.set p s,?_,by rw[List.length_set];exact b2,fun j h1 h2=>?_⟩
    · show Se.srt T F (p+1) S2=_
      simp only[Se.srt]
      rw[hx,hks,hn.fp,hn.rs]
      have hc:(true && !(x.op==15 && !((T.getD (p+1) ndZ).op==3)))=true:=by
        by_cases h15:x.op=15
        · rw[hx1 h15];simp
        · simp[h15]
      rw[if_pos hc]
      rfl
    · by_cases hj:j=p
      · subst hj
        rw[g0,List.getD_eq_getElem?_getD,List.getElem?_set_self (by omega)];rfl
      · rw[List.getD_eq_getElem?_getD,List.getElem?_set_ne (fun e=>hj e.symm),←List.getD_eq_getElem?_getD]
        exact b3 j (by omega) h2
end Go.Proofs.YtpkfnnkbfphfbaaGreatDoor.Se
/- The height of a term; its shape; its names. -/
namespace Go.Proofs.YtpkfnnkbfphfbaaGreatDoor.Se
open Go.RowKit Nmx
theorem drop_drop (i j:Nat) (h:j≤i):∀l:List Nat,(l.dropWhile (fun x=>decide (x≤j))).dropWhile (fun x=>decide (x≤i))=l.dropWhile (fun x=>decide (x≤i)):=by
  intro l
  induction l with
  | nil=>rfl
  | cons x l ih=>
    by_cases hx:x≤j
    · rw[List.dropWhile_cons_of_pos (by simpa using hx),ih,List.dropWhile_cons_of_pos (by simp;omega)]
    · rw[List.dropWhile_cons_of_neg (by simpa using hx)]
end Go.Proofs.YtpkfnnkbfphfbaaGreatDoor.Se
/- What the reference answers at a node: plain part. -/
namespace Go.Proofs.YtpkfnnkbfphfbaaGreatDoor.Se
open Go.RowKit Nmx
theorem len0 {ss:List Int} (h:(ss.length:Int)≤0):ss=[]:=List.length_eq_zero_iff.1 (by omega)
theorem len1 {ss:List Int} (h:1≤(ss.length:Int)) (h':(ss.length:Int)≤1):∃a,ss=[a]:=List.length_eq_one_iff.1 (by omega)
theorem len3 {ss:List Int} (h:3≤(ss.length:Int)) (h':(ss.length:Int)≤3):∃a b c,ss=[a,b,c]:=by
  match ss,h,h' with
  | [a,b,c],_,_=>exact ⟨a,b,c,rfl⟩
  | [],h,_=>simp at h
  | [_],h,_=>simp at h
  | [_,_],h,_=>simp at h
  | _::_::_::_::_,_,h'=>simp only[List.length_cons] at h';omega
end Go.Proofs.YtpkfnnkbfphfbaaGreatDoor.Se
/- Names by the reference. -/
namespace Go.Proofs.YtpkfnnkbfphfbaaGreatDoor
open Go.RowKit Nmx

theorem bytes_of {s:ByteArray} {x:List UInt8} (h:s.toList=x):s=⟨x.toArray⟩:=by
  apply ba_eq
  rw[←ByteArray.toList_eq];exact h
end Go.Proofs.YtpkfnnkbfphfbaaGreatDoor
/- The reference's tests of sorts and fields. -/
namespace Go.Proofs.YtpkfnnkbfphfbaaGreatDoor.Se
open Go.RowKit Nmx

section
theorem rIsInt_q (t:ByteArray) (w:World) (hs:t.size≤1000):Calls Tryz.prog 43 #[.string t] w fun e w'=>e=.returned (.bool (iN t))∧Below w.heap.size w w':=by
  have h:=refIsInt_any t w (by omega)
  rw[show isI t.data.toList=iN t from rfl] at h
  exact h
end
end Go.Proofs.YtpkfnnkbfphfbaaGreatDoor.Se

import Derived.Test.YtpkfnnkbfphfbaaGreatDoorHEF
namespace Go.Proofs.YtpkfnnkbfphfbaaGreatDoor.Se
open Go.RowKit Nmx
theorem Bb {t:ByteArray} (h:iN t=true) (hs:t.size≤50):∃z,t=TI z∧Sm z:=by
 unfold iN at h;cases hq:bp t.data.toList with
 | none=>rw[hq] at h;cases h
 | some q=>
   rw[hq] at h;have hd:q.den=1:=of_decide_eq_true h;have hz:((q.num:Int):Rat)=q:=Rat.ext (Rat.num_intCast _) ((Rat.den_intCast _).trans hd.symm);have ht:=fc hq;refine ⟨q.num,?_,?_⟩
   · unfold TI TX;rw[hz,ht]
   · unfold Sm;have hl:(bB q).length≤50:=by rw[ht,size_data];exact hs
     unfold bB bS at hl;rw[aF hd,List.append_nil] at hl;refine aC (fU _) (Nat.pow_le_pow_right (by decide) ?_)
     split at hl
     · rw[aw] at hl;omega
     · exact hl
def OkT (t:ByteArray):Prop:=t.size≤104∧(iN t=true→∃z,t=TI z∧Sm z)
theorem OkT.of50 {t:ByteArray} (h:t.size≤50):OkT t:=⟨by omega,fun hi=>Bb hi h⟩
theorem OkT.ti {z:Int} (h:Sm z):OkT (TI z):=⟨h.sz,fun _=>⟨z,rfl,h⟩⟩
noncomputable def zT (t:ByteArray):Int:=by classical exact if h:∃z,t=TI z then h.choose else 0
theorem Bc (z:Int):zT (TI z)=z:=by
 unfold zT;have h:∃y,TI z=TI y:=⟨z,rfl⟩
 rw[dif_pos h];exact (r8 h.choose_spec).symm
theorem ib {t:ByteArray} (h:iN t=true) (hs:OkT t):TI (zT t)=t∧Sm (zT t):=by
 obtain ⟨z,rfl,hz⟩:=hs.2 h;rw[Bc];exact ⟨rfl,hz⟩
noncomputable def okK (num:ByteArray) (ks us:List ByteArray) (i:Nat):Bool:=
 match ks[i]?,us[i]? with
 | some k,some u=>iN k && (i==0 || decide (zT (ks.getD (i-1) ByteArray.empty)<zT k)) && iN u && !(u.toList==num.toList)
 | _,_=>false
noncomputable def vaF (num:ByteArray) (ks us:List ByteArray):Bool:=iN num && decide (ks.length=us.length) && (List.range ks.length).all (okK num ks us)
theorem Vld.of_steps {d:Int}:∀{l:Arx.L},(∀p∈l,p.2≠d)→(∀i (h:i+1<l.length),(l[i]'(by omega)).1<(l[i+1]'h).1)→Arx.Vld d l
 | [],_,_=>trivial
 | [p],h1,_=>by
   have:=h1 p (List.mem_cons_self ..)
   simpa [Arx.Vld] using this
 | p::q::l,h1,h2=>by
   have ih:=Vld.of_steps (d:=d) (l:=q::l) (fun r hr=>h1 r (List.mem_cons_of_mem _ hr)) (fun i h=>h2 (i+1) (by simpa using h));have h0:=h2 0 (by simp);have hp:=h1 p (List.mem_cons_self ..);refine Arx.Vld.cons hp ?_ ih;intro r hr;rcases List.mem_cons.1 hr with rfl | hr
   · exact h0
   · exact Int.lt_trans h0 (ih.tail.2.1 r hr)
theorem gi {num:ByteArray} {ks us:List ByteArray} {i:Nat} (hk:i<ks.length) (hu:i<us.length):okK num ks us i=(iN ks[i] && (i==0 || decide (zT (ks.getD (i-1) ByteArray.empty)<zT ks[i])) && iN us[i] && !(us[i].toList==num.toList)):=by
 unfold okK;rw[ay hk,ay hu]
theorem wP {a b:ByteArray} (h:(!(a.toList==b.toList))=true):a≠b:=fun e=>by subst e;simp at h
theorem vo {num:ByteArray} {ks us:List ByteArray} (h:vaF num ks us=true):iN num=true∧ks.length=us.length∧∀i,i<ks.length→okK num ks us i=true:=by
 unfold vaF at h;simp only[Bool.and_eq_true,decide_eq_true_eq,List.all_eq_true,List.mem_range] at h;exact ⟨h.1.1,h.1.2,h.2⟩
noncomputable def prs (ks us:List ByteArray):Arx.L:=(ks.map zT).zip (us.map zT)
theorem Bd {w:World} {num:ByteArray} {ks us:List ByteArray} {k u:Value} (h:vaF num ks us=true) (hk:RRow w k ks) (hu:RRow w u us) (hn:OkT num) (hs:∀t∈ks,OkT t) (hs':∀t∈us,OkT t) (hl:ks.length≤12):
    ∃d l,num=TI d∧l.length=ks.length∧AR w d l k u:=by
 obtain ⟨h1,h2,h3⟩:=vo h;have hd:=ib h1 hn;have hlen:(prs ks us).length=ks.length:=by unfold prs;simp;omega
 have hat:∀i (hi:i<(prs ks us).length),(prs ks us)[i]=(zT (ks[i]'(by omega)),zT (us[i]'(by omega))):=by
  intro i hi
  simp[prs]
 have hok:∀i (hi:i<ks.length),iN ks[i]=true∧(i=0∨zT (ks.getD (i-1) ByteArray.empty)<zT ks[i])∧iN (us[i]'(by omega))=true∧us[i]'(by omega)≠num:=by
  intro i hi;have:=h3 i hi;rw[gi hi (by omega)] at this;simp only[Bool.and_eq_true,Bool.or_eq_true,beq_iff_eq,decide_eq_true_eq] at this;exact ⟨this.1.1.1,this.1.1.2,this.1.2,wP this.2⟩
 have hkT:kT (prs ks us)=ks:=by
  apply List.ext_getElem
  · simp[kT,hlen]
  · intro i g1 g2;have hi:i<(prs ks us).length:=by simpa [kT] using g1
    simp only[kT,List.getElem_map,hat i hi];exact (ib (hok i g2).1 (hs _ (List.getElem_mem g2))).1
 have hvT:vT (prs ks us)=us:=by
  apply List.ext_getElem
  · simp[vT,hlen,h2]
  · intro i g1 g2;have hi:i<(prs ks us).length:=by simpa [vT] using g1
    simp only[vT,List.getElem_map,hat i hi];exact (ib (hok i (by omega)).2.2.1 (hs' _ (List.getElem_mem g2))).1
 refine ⟨zT num,prs ks us,hd.1.symm,hlen,by rw[hkT];exact hk,by rw[hvT];exact hu,?_,hd.2,?_,by omega⟩
 · refine Vld.of_steps (fun p hp=>?_) (fun i hi=>?_)
   · obtain ⟨i,hi,rfl⟩:=List.getElem_of_mem hp;rw[hat i hi];intro e;have e:zT (us[i]'(by omega))=zT num:=e;have q1:=(ib (hok i (by omega)).2.2.1 (hs' _ (List.getElem_mem (by omega)))).1;exact (hok i (by omega)).2.2.2 (by rw[←q1,←hd.1,e])
   · rw[hat i (by omega),hat (i+1) hi];rcases (hok (i+1) (by omega)).2.1 with h0 | h0
     · omega
     · rw[Nat.add_sub_cancel,aA,ay (by omega)] at h0;exact h0
 · intro p hp;obtain ⟨i,hi,rfl⟩:=List.getElem_of_mem hp;rw[hat i hi];exact ⟨(ib (hok i (by omega)).1 (hs _ (List.getElem_mem (by omega)))).2,(ib (hok i (by omega)).2.2.1 (hs' _ (List.getElem_mem (by omega)))).2⟩
theorem wQ {num:ByteArray} {ks us:List ByteArray} (h:vaF num ks us=false) (h1:iN num=true) (h2:ks.length=us.length):∃i,i<ks.length∧okK num ks us i=false∧∀j,j<i→okK num ks us j=true:=by
 have key:∀n,(∃i,i<n∧okK num ks us i=false∧∀j,j<i→okK num ks us j=true)∨∀j,j<n→okK num ks us j=true:=by
  intro n
  induction n with
  | zero=>exact .inr (fun j hj=>by omega)
  | succ n ih=>
    rcases ih with ⟨i,q1,q2,q3⟩ | ih
    · exact .inl ⟨i,by omega,q2,q3⟩
    · cases hb:okK num ks us n with
      | false=>exact .inl ⟨n,by omega,hb,ih⟩
      | true=>
        refine .inr fun j hj=>?_
        rcases Nat.lt_succ_iff_lt_or_eq.1 hj with hj | rfl
        · exact ih j hj
        · exact hb
 rcases key ks.length with hk | hk
 · exact hk
 · exfalso
   unfold vaF at h;rw[h1,aH h2,Bool.true_and,Bool.true_and,List.all_eq_false] at h;obtain ⟨j,hj,hn⟩:=h;exact hn (hk j (List.mem_range.1 hj))
end Go.Proofs.YtpkfnnkbfphfbaaGreatDoor.Se

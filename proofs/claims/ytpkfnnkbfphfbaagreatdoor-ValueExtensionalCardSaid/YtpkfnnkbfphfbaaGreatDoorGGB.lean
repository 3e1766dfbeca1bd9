/- ValueExtensional: its walk. -/
import Derived.Test.YtpkfnnkbfphfbaaGreatDoorGFG
set_option maxRecDepth 100000
set_option maxHeartbeats 40000000
namespace Go.Proofs.YtpkfnnkbfphfbaaGreatDoor.Se
open Go.RowKit Nmx

def keysF (l l':Arx.L):List Int:=l.map (·.1)++l'.map (·.1)
theorem keysF_len (l l':Arx.L):(keysF l l').length=l.length+l'.length:=by simp[keysF]
theorem keysF_sm {l l':Arx.L} (h:∀p∈l,Sm p.1∧Sm p.2) (h':∀p∈l',Sm p.1∧Sm p.2):∀x∈keysF l l',Sm x:=by
  intro x hx
  simp only[keysF,List.mem_append,List.mem_map] at hx
  rcases hx with ⟨p,hp,rfl⟩ | ⟨p,hp,rfl⟩
  · exact (h p hp).1
  · exact (h' p hp).1
theorem keysF_ti (l l':Arx.L):kT l++kT l'=(keysF l l').map TI:=by simp[keysF,kT,Function.comp_def]
def sameX (d d':Int) (l l':Arx.L) (i:Nat):Bool:=decide (d=d') && ((keysF l l').take i).all fun k=>decide (Arx.atA d l k=Arx.atA d' l' k)
theorem sameX_step {d d':Int} {l l':Arx.L} {i:Nat} (h:i<(keysF l l').length):sameX d d' l l' (i+1)=(sameX d d' l l' i && decide (Arx.atA d l (keysF l l')[i]=Arx.atA d' l' (keysF l l')[i])):=by
  unfold sameX
  rw[List.take_add_one,List.getElem?_eq_getElem h,List.all_append,Bool.and_assoc]
  simp
theorem sameX_end {d d':Int} {l l':Arx.L} (h:Arx.Vld d l) (h':Arx.Vld d' l'):sameX d d' l l' (keysF l l').length=decide (d=d'∧l=l'):=by
  unfold sameX
  rw[List.take_length]
  by_cases hd:d=d'
  · subst hd
    by_cases hl:l=l'
    · subst hl;simp
    · rw[decide_eq_true rfl,Bool.true_and,decide_eq_false (fun e=>hl e.2),List.all_eq_false]
      apply Classical.byContradiction
      intro hc
      refine hl (Arx.ext h h' (fun p hp=>?_) (fun p hp=>?_))
      · refine Classical.byContradiction fun hne=>hc ⟨p.1,?_,by simpa using hne⟩
        simp only[keysF,List.mem_append,List.mem_map]
        exact .inl ⟨p,hp,rfl⟩
      · refine Classical.byContradiction fun hne=>hc ⟨p.1,?_,by simpa using hne⟩
        simp only[keysF,List.mem_append,List.mem_map]
        exact .inr ⟨p,hp,rfl⟩
  · rw[decide_eq_false hd,Bool.false_and,decide_eq_false (fun e=>hd e.1)]
theorem SRow.src {S:Nat} {w:World} {u:Value} {ts:List ByteArray} (h:SRow S w u ts):(u=.slice none 0 0∧ts=[])∨∃ad c,u=.slice (some ad) ts.length c∧∀j v,(ts.map Value.string)[j]? =some v→w.cell? (ad.add j)=some v:=by
  obtain ⟨hlen,⟨rfl,h0⟩ | ⟨g,cap,cur,rfl,-⟩⟩:=id h
  · exact .inl ⟨rfl,List.eq_nil_of_length_eq_zero h0⟩
  · exact .inr ⟨_,cap,rfl,fun j v hj=>World.ownsRow.cells h (g:=g) rfl j v hj⟩
theorem addAt_append_row {o:Oper} {a:Act} {w:World} {R:Value→World→Prop} (s x:Operand)
    (ho:o.op=.call { callee:=.builtin .append,args:=#[s,x],argTypes:=#[22,22] })
    (base:Nat) (v:Value) (xs:List ByteArray) (hs:a.eval s=v) (hown:SRow base w v xs)
    {S:Nat} (u:Value) (ts:List ByteArray) (hx:a.eval x=u) (hr:SRow S w u ts) (hn:xs.length+ts.length≤100000) (hbase:base≤w.heap.size)
    (h:∀v' w',SRow base w' v' (xs++ts)→w.grownBy w' v.ownBlock→R v' w'):addAt Tryz.prog o a w R:=by
  obtain ⟨i0,hi,hz0,hz1,hz2⟩:=info_parts infoStr2
  rcases hr.src with ⟨rfl,rfl⟩ | ⟨ad,c,rfl,hc⟩
  · have hrun:=run_append_owned_none (P:=Tryz.prog) (w:=w) base 22 o.type 9 i0 1 Tryz.underlying22 hi v xs.length (xs.map Value.string) hown
    unfold addAt execOp
    simp only[ho,resolve,invoke,builtin,Sem.run_bind,Sem.run_pure,Result.andThen_ok,List.map_toArray,List.map_cons,List.map_nil,hs,hx,hrun]
    refine h v w ?_ ⟨rfl,rfl,rfl,Nat.le_refl _,fun _ _ _=>rfl⟩
    rw[List.append_nil]
    exact hown
  · refine addAt_append s x 22 ho base 9 i0 _ 1 16 Tryz.underlying22 hi hz0 hz1 hz2 rfl (by decide) v xs.length (xs.map Value.string) hs hown ad ts.length c (ts.map Value.string) hx (by simp) hc one_str (by unfold maxLen;omega) (by omega) hbase ?_
    intro v' w' h1 h2
    refine h v' w' ?_ h2
    unfold SRow
    rw[List.length_append,List.map_append]
    exact h1
structure EB (S A B:Nat) (d d':Int) (td td':ByteArray) (l l':Arx.L) (k u k' u':Value) (W:World):Prop where
  a:BXA S A d td l k u W
  b:BXA S B d' td' l' k' u' W
theorem EB.far {S A B:Nat} {d d':Int} {td td':ByteArray} {l l':Arx.L} {k u k' u':Value} {W W':World} (h:EB S A B d d' td td' l l' k u k' u' W) (hb:Below W.heap.size W W'):EB S A B d d' td td' l l' k u k' u' W':=⟨h.a.far hb,h.b.far hb⟩
structure EJ (W0:World) (am:Option Addr) (lm cm B:Nat) (d:Int) (td:ByteArray) (l:Arx.L) (l2 l3 l4 l5 l6 l8:Bool) (x2 x3 x4 x5 x6:Value) (W:World):Prop where
  gr:W0.grownBy W (some B)
  vb:l8=false→Below W0.heap.size W0 W
  s2:l2=true→l3=false→∃C2,x2=.pointer (some ⟨C2,0,none⟩)∧Ch C2 am (min lm 400) cm W∧W0.heap.size≤C2
  s3:l3=true→∃z,Sm z∧x3=.string (TI z)
  s4:l4=true→∃z k' u',x4=.tuple #[.agg #[.int .i64 4,.bool false,.string td,k',u'],.int .i64 0]∧AV W0.heap.size W d (Arx.stA d l 2 z) k' u'
  s5:l5=true→x5=x4
  s6:l6=true→x4=.tuple #[x6,.int .i64 0]
  s8:l8=true→∃k' u',x4=.tuple #[.agg #[.int .i64 4,.bool false,.string td,k',u'],.int .i64 0]∧W.heap[B]? =some (.cells #[.int .i64 4,.bool false,.string td,k',u'] 24 (0,0))
section
variable {W0:World} {am:Option Addr} {lm cm B:Nat} {d:Int} {td:ByteArray} {l:Arx.L} {l2 l3 l4 l5 l6 l8:Bool} {x2 x3 x4 x5 x6:Value} {W W':World}
theorem EJ.int {C2:Nat} {x3':Value} (e8:l8=false) (e4:l4=false) (h:EJ W0 am lm cm B d td l l2 false l4 l5 l6 l8 x2 x3 x4 x5 x6 W) (hC:W0.heap.size≤C2) (hg:W.grownBy W' (some C2)) {z:Int} (hz:Sm z) (e3:x3'=.string (TI z)):EJ W0 am lm cm B d td l l2 true l4 l5 l6 l8 x2 x3' x4 x5 x6 W' where
  gr:=by
    have hb:=(h.vb e8).grown hg (h.vb e8).size (fun k e=>by have:=Option.some.inj e;omega)
    exact grown_more (grown_below hb)
  vb:=fun _=>(h.vb e8).grown hg (h.vb e8).size (fun k e=>by have:=Option.some.inj e;omega)
  s2:=fun _ e=>by cases e
  s3:=fun _=>⟨z,hz,e3⟩
  s4:=fun e=>by rw[e4] at e;cases e
  s5:=h.s5
  s6:=h.s6
  s8:=fun e=>by rw[e8] at e;cases e
theorem EJ.far (h:EJ W0 am lm cm B d td l l2 l3 l4 l5 l6 l8 x2 x3 x4 x5 x6 W) (e8:l8=false) (hb:Below W.heap.size W W'):EJ W0 am lm cm B d td l l2 l3 l4 l5 l6 l8 x2 x3 x4 x5 x6 W' where
  gr:=grown_call h.gr hb
  vb:=fun e=>(h.vb e).trans (hb.mono (h.vb e).size)
  s2:=fun e e'=>let ⟨C2,q1,q2,q3⟩:=h.s2 e e';⟨C2,q1,q2.call hb,q3⟩
  s3:=h.s3
  s4:=fun e=>let ⟨z,k',u',q1,q2⟩:=h.s4 e;⟨z,k',u',q1,q2.far hb⟩
  s5:=h.s5
  s6:=h.s6
  s8:=fun e=>by rw[e8] at e;cases e
theorem EJ.set {k' u' k0 u0:Value} {d0:Int} (el:l3=true) (h:EJ W0 am lm cm B d td l l2 l3 l4 l5 l6 false x2 x3 x4 x5 x6 W) (hB:W0.heap[B]? =some (.cells #[.int .i64 4,.bool false,.string (TI d0),k0,u0] 24 (0,0)))
    (e4:x4=.tuple #[.agg #[.int .i64 4,.bool false,.string td,k',u'],.int .i64 0])
    (s1:W'.heap[B]? =some (.cells #[.int .i64 4,.bool false,.string td,k',u'] 24 (0,0))) (s2:∀b,b≠B→W'.heap[b]? =W.heap[b]?) (s3:∀{B':Nat} {w0:World},Below B' w0 W→B'≤B→Below B' w0 W'):
    EJ W0 am lm cm B d td l l2 l3 l4 l5 l6 true x2 x3 x4 x5 x6 W':=by
  have hbw:Below B W W':=s3 (Below.refl B W) (Nat.le_refl _)
  have hW:W.heap[B]? =some (.cells #[.int .i64 4,.bool false,.string (TI d0),k0,u0] 24 (0,0)):=((h.vb rfl).block _ (lt_of_heap hB)).trans hB
  have hg:W.grownBy W' (some B):=⟨hbw.os,hbw.tape,hbw.output,hbw.size,fun k _ hne=>s2 k fun e=>hne (by rw[e])⟩
  refine ⟨grown_trans h.gr hg,(fun e=>by cases e),(fun _ e'=>by rw[el] at e';cases e'),h.s3,fun e=>?_,h.s5,h.s6,fun _=>⟨k',u',e4,s1⟩⟩
  obtain ⟨z,k1,u1,q1,q2⟩:=h.s4 e
  refine ⟨z,k1,u1,q1,q2.blocks fun g _ ⟨cs,fr,hh⟩=>s2 g fun e=>?_⟩
  subst e
  have:=hW.symm.trans hh
  injection Option.some.inj this with _ e2 _
  exact absurd e2 (by decide)
end
structure KJ (W0:World) (ts us:List ByteArray) (l2 l5 l6:Bool) (x2 x5 x6:Value) (W:World):Prop where
  bel:Below W0.heap.size W0 W
  s2:l2=true→l5=false→SRow W0.heap.size W x2 ts
  s5:l5=true→SRow W0.heap.size W x5 (ts++us)
  s6:l6=true→x6=x5
section
theorem ext_law (al:Option Addr) (ll cl:Nat) (am:Option Addr) (lm cm:Nat) (w:World) (hE:Env w) (hl:ArgI w al ll cl) (hm:ArgI w am lm cm):
    Calls Tryz.prog 6 #[.slice al ll cl,.slice am lm cm] w fun e w'=>e=.returned (.bool true)∧Below w.heap.size w w':=by
  have hnew:=new_any al ll cl w hl
  obtain ⟨C,hC⟩:∃C,w.heap.size=C:=⟨_,rfl⟩
  have hch0:=ch_newV hl
  have HCE:=Lib.hid hC
  have HE:=Lib.hid hE
  have HM:=Lib.hid hm
  rw[hC] at hch0
  unfold NewPost at hnew
  rw[hC] at hnew ⊢
  have hal:=alloc_far' w (.cells #[.slice al (min ll 400) cl,.int .i64 0] 60)
  rw[hC] at hal
  generalize hw1:w.alloc (.cells #[.slice al (min ll 400) cl,.int .i64 0] 60)=w1 at *
  have HSZ:Hid (w1.heap.size=C+1):=Lib.hid (by rw[←hw1,←hC];simp)
  have HCH:=Lib.hid hch0
  have HB1:=Lib.hid hal
  clear hw1 hl hm hC hch0 hE hal
  go_enter Tryz.func6,Tryz.ntmps6
  go_wp2_with fail
  refine hnew.mono ?_
  rintro e w2 ⟨rfl,rfl⟩
  clear hnew
  have HGA:=Lib.hid (genArr C al (min ll 400) cl w2 HCH.out)
  go_wp2_with fail
  refine HGA.out.mono ?_
  rintro e w3 ⟨d,l,k0,u0,rfl,hav,hl3,hch,hg⟩
  have HB3:=Lib.hid (HB1.out.grown hg (by have:=HSZ.out;omega) (fun k e=>by have:=Option.some.inj e;omega))
  have HAV:=Lib.hid hav
  have HL3:Hid (l.length≤3):=Lib.hid hl3
  have HM3:=Lib.hid (ArgI.belowV HM.out (by rw[HCE.out];exact HB3.out))
  have HS3:Hid (C<w3.heap.size):=Lib.hid hch.lt
  clear hav hl3 hch hg HGA HCH HB1
  have hnew:=new_any am lm cm w3 HM3.out
  have hch0:=ch_newV HM3.out
  unfold NewPost at hnew
  have hal:=alloc_far' w3 (.cells #[.slice am (min lm 400) cm,.int .i64 0] 60)
  obtain ⟨D,hD⟩:∃D,w3.heap.size=D:=⟨_,rfl⟩
  have HD:=Lib.hid hD
  rw[hD] at hnew hch0 hal
  generalize hw4:w3.alloc (.cells #[.slice am (min lm 400) cm,.int .i64 0] 60)=w4 at *
  have HSZ4:Hid (w4.heap.size=D+1):=Lib.hid (by rw[←hw4,←hD];simp)
  have HCH4:=Lib.hid hch0
  have HB4:=Lib.hid hal
  clear hw4 hD hch0 hal HM3
  go_wp2_with fail
  refine hnew.mono ?_
  rintro e w5 ⟨rfl,rfl⟩
  clear hnew
  have HGB:=Lib.hid (genArr D am (min lm 400) cm w5 HCH4.out)
  go_wp2_with fail
  refine HGB.out.mono ?_
  rintro e w6 ⟨d',l',k1,u1,rfl,hav',hl3',hch,hg⟩
  have HB6:=Lib.hid (HB4.out.grown hg (by have:=HSZ4.out;omega) (fun k e=>by have:=Option.some.inj e;omega))
  have HAV6:=Lib.hid (HAV.out.far (by rw[HD.out];exact HB6.out))
  have HBV6:=Lib.hid hav'
  have HL3':Hid (l'.length≤3):=Lib.hid hl3'
  obtain ⟨a1,c1,a2,c2,rfl,rfl⟩:=HAV.out.form
  obtain ⟨b1,e1,b2,e2,rfl,rfl⟩:=hav'.form
  unfold valV
  clear hav' hl3' hch hg HGB HCH4 HB4 HAV
  go_upto_region 2 with fail
  have ha:=alloc_far' w6 (.cells #[.int .i64 4,.bool false,.string (TI d),.slice a1 l.length c1,.slice a2 l.length c2] 24)
  have hb:=alloc_far' (w6.alloc (.cells #[.int .i64 4,.bool false,.string (TI d),.slice a1 l.length c1,.slice a2 l.length c2] 24)) (.cells #[.int .i64 4,.bool false,.string (TI d'),.slice b1 l'.length e1,.slice b2 l'.length e2] 24)
  have x1:=(hb.block _ (lt_of_heap (heap_alloc_new w6 (.cells #[.int .i64 4,.bool false,.string (TI d),.slice a1 l.length c1,.slice a2 l.length c2] 24)))).trans (heap_alloc_new w6 (.cells #[.int .i64 4,.bool false,.string (TI d),.slice a1 l.length c1,.slice a2 l.length c2] 24))
  have x2:=heap_alloc_new (w6.alloc (.cells #[.int .i64 4,.bool false,.string (TI d),.slice a1 l.length c1,.slice a2 l.length c2] 24)) (.cells #[.int .i64 4,.bool false,.string (TI d'),.slice b1 l'.length e1,.slice b2 l'.length e2] 24)
  rw[show (w6.alloc (.cells #[.int .i64 4,.bool false,.string (TI d),.slice a1 l.length c1,.slice a2 l.length c2] 24)).heap.size=w6.heap.size+1 by simp] at x2
  have hab:=ha.trans (hb.mono ha.size)
  have HBB:Hid (EB (C+1) w6.heap.size (w6.heap.size+1) d d' (TI d) (TI d') l l' (.slice a1 l.length c1) (.slice a2 l.length c2) (.slice b1 l'.length e1) (.slice b2 l'.length e2) ((w6.alloc (.cells #[.int .i64 4,.bool false,.string (TI d),.slice a1 l.length c1,.slice a2 l.length c2] 24)).alloc (.cells #[.int .i64 4,.bool false,.string (TI d'),.slice b1 l'.length e1,.slice b2 l'.length e2] 24))):=
    Lib.hid ⟨⟨x1,(HAV6.out.down (by have:=HSZ.out;omega)).far hab⟩,⟨x2,(HBV6.out.down (by have:=HSZ4.out;have:=HD.out;have:=HS3.out;omega)).far hab⟩⟩
  have HB7:=Lib.hid ((HB3.out.trans (HB6.out.mono (by have:=HS3.out;have:=HD.out;omega))).trans (hab.mono (by have:=HB6.out.size;have:=HS3.out;have:=HD.out;omega)))
  have HM7:=Lib.hid (ArgI.belowV HM.out (by rw[HCE.out];exact HB7.out))
  have HCS:Hid (C<w6.heap.size):=Lib.hid (by have:=HB6.out.size;have:=HS3.out;have:=HD.out;omega)
  have HL7:Hid (l.length≤3∧l'.length≤3):=Lib.hid ⟨HL3.out,HL3'.out⟩
  generalize hw7:(World.alloc (World.alloc w6 _) _)=w7 at *
  generalize w6.heap.size=A at *
  clear ha hb x1 x2 hab hw7 HAV6 HBV6 HB3 HB6 HSZ HSZ4 HD HS3 HM HL3 HL3'
  go_cut [25] from 16 to 25 (fun c wx=>∃b,c=.bool b∧wx=w7)
  case first=>
    by_cases hlm:lm=0
    · subst hlm
      go_wp2_with fail
      go_meet
      case rel=>exact ⟨false,rfl,rfl⟩
    · obtain ⟨b,off,rfl,hb,hx⟩:=HM7.out.rd (by have:=HM7.out.le;omega)
      obtain ⟨x,hx⟩:=hx 0 (by omega)
      rw[Nat.add_zero] at hx
      have hlm':(0:Int)<(lm:Int):=by omega
      have HMD:=Lib.hid (mod_q x 3 w7 (by decide) (by decide))
      clear hb hlm
      go_wp2_with fail
      refine HMD.out.mono ?_
      rintro e w8 ⟨rfl,rfl⟩
      clear hx
      go_wp2_with fail
      go_meet
      case rel=>exact ⟨_,rfl,rfl⟩
  case rest=>
  obtain ⟨b,rfl,hwc⟩:=hcut
  subst hwc
  go_upto_if 25 with fail
  go_cut [26] from 26 to 33 (fun _ wx=>∃(dd:Int) (lx:Arx.L) (k' u':Value),lx.length≤4∧EB (C+1) A (A+1) d dd (TI d) (TI dd) l lx (.slice a1 l.length c1) (.slice a2 l.length c2) k' u' wx∧Below C w wx∧A+1<wx.heap.size)
  case first=>
    cases b with
    | false=>
      go_wp2_with fail
      go_meet
      case rel=>exact ⟨d',l',_,_,by have:=HL7.out.2;omega,HBB.out,HB7.out,lt_of_heap HBB.out.b.1⟩
    | true=>
      have HM8:=HM7
      have HSL:Hid (l.length<500):=Lib.hid (by have:=HL7.out.1;omega)
      obtain ⟨td,htd⟩:∃t,TI d=t:=⟨_,rfl⟩
      have HTD:=Lib.hid htd
      rw[htd] at HBB
      clear htd
      go_upto_region 3 with fail
      refine inv_region [[],[],[1],[1,2],[0,1,2,3],[0,1,2,3,4],[0,1,2,3,4,5],[0,1,2,3,4,5],[0,1,2,3,4,5,6]] (fun y L W=>EJ wc am lm cm (A+1) d td l (L 2) (L 3) (L 4) (L 5) (L 6) (L 8) (y 2) (y 3) (y 4) (y 5) (y 6) W) ?_
      apply j_con
      · intro y;go_simp;done
      · intro y L W R hJ h1 h2 h3 hR
        obtain ⟨z0,z1,z2,z3,z4⟩:=(HBB.out.a.far (hJ.vb (h3 8 (show (0:Nat)∈([0,1,2,3,4,5,6]:List Nat) by decide)))).cells
        unfold addAt
        go_simp
        simp only[addUpon]
        exact hR _ hJ
      simp only[Act.put,List.setIfInBounds_toArray,List.set_cons_zero,List.set_cons_succ]
      apply j_con
      · intro y;go_simp;done
      · intro y L W R hJ h1 h2 h3 hR
        unfold addAt
        go_simp
        simp only[addUpon]
        exact hR _ hJ
      simp only[Act.put,List.setIfInBounds_toArray,List.set_cons_zero,List.set_cons_succ]
      apply j_any
      · intro y;go_simp;done
      · intro y L W R hJ h1 h2 h3 hR
        have q8:L 8=false:=h3 8 (show (2:Nat)∈([0,1,2,3,4,5,6]:List Nat) by decide)
        have q3:L 3=false:=h3 3 (show (2:Nat)∈([1,2]:List Nat) by decide)
        have hA:=ArgI.belowV HM8.out (hJ.vb q8)
        have hc:=new_any am lm cm W hA
        have hch:=ch_newV hA
        have hal:=alloc_far' W (.cells #[.slice am (min lm 400) cm,.int .i64 0] 60)
        have hs:=(hJ.vb q8).size
        have hJ':=hJ.far q8 hal
        unfold NewPost at hc
        have HJ:=Lib.hid hJ'
        clear hJ hJ'
        unfold addAt
        go_simp
        simp only[addUpon]
        refine hc.mono ?_
        rintro e w' ⟨rfl,rfl⟩
        exact ⟨_,rfl,hR _ _ ⟨HJ.out.gr,HJ.out.vb,fun _ _=>⟨_,rfl,hch,hs⟩,HJ.out.s3,HJ.out.s4,HJ.out.s5,HJ.out.s6,HJ.out.s8⟩⟩
      simp only[Act.put,List.setIfInBounds_toArray,List.set_cons_zero,List.set_cons_succ,List.length_cons,List.length_nil,Nat.zero_add,Nat.reduceAdd]
      apply j_any
      · intro y;go_simp;done
      · intro y L W R hJ h1 h2 h3 hR
        have q8:L 8=false:=h3 8 (show (3:Nat)∈([0,1,2,3,4,5,6]:List Nat) by decide)
        have q4:L 4=false:=h3 4 (show (3:Nat)∈([0,1,2,3]:List Nat) by decide)
        have q3:L 3=false:=h2
        obtain ⟨C2,e2,hch,hC2⟩:=hJ.s2 (h1 2 (show (2:Nat)∈([1,2]:List Nat) by decide)) q3
        have hc:=integer_any C2 am (min lm 400) cm W hch
        have hJ':=hJ
        rw[q3] at hJ'
        have HJ:=Lib.hid hJ'
        clear hJ hJ'
        rw[e2]
        unfold addAt
        go_simp
        simp only[addUpon]
        refine hc.mono ?_
        rintro e w' ⟨z,hz,rfl,hch,hg⟩
        have hsz:Sm z:=Nat.lt_trans hz (by decide)
        have hf:=HJ.out.int (x3':=.string (TI z)) q8 q4 hC2 hg hsz rfl
        exact ⟨_,rfl,hR _ _ ⟨hf.gr,hf.vb,(fun _ e=>Bool.noConfusion (show true=false from e)),hf.s3,hf.s4,hf.s5,hf.s6,hf.s8⟩⟩
      simp only[Act.put,List.setIfInBounds_toArray,List.set_cons_zero,List.set_cons_succ,List.length_cons,List.length_nil,Nat.zero_add,Nat.reduceAdd]
      apply j_any
      · intro y;go_simp;done
      · intro y L W R hJ h1 h2 h3 hR
        have q8:L 8=false:=h3 8 (show (4:Nat)∈([0,1,2,3,4,5,6]:List Nat) by decide)
        obtain ⟨z,hz,q3⟩:=hJ.s3 (h1 3 (show (3:Nat)∈([0,1,2,3]:List Nat) by decide))
        have hc:=refStore_av W (x:=2) (HBB.out.a.2.far (hJ.vb q8)).rd (by unfold Sm;decide) hz HSL.out
        rw[ti2,HTD.out] at hc
        unfold valV at hc
        have HJ:=Lib.hid hJ
        clear hJ
        rw[q3]
        unfold addAt
        go_simp
        simp only[addUpon]
        refine hc.mono ?_
        rintro e w' ⟨k',u',rfl,hav,hb⟩
        have hf:=HJ.out.far q8 hb
        exact ⟨_,rfl,hR _ _ ⟨hf.gr,hf.vb,hf.s2,hf.s3,fun _=>⟨z,k',u',rfl,hav.down (HJ.out.vb q8).size⟩,fun e=>absurd ((h3 5 (show (4:Nat)∈([0,1,2,3,4]:List Nat) by decide)).symm.trans (show L 5=true from e)) (by decide),fun e=>absurd ((h3 6 (show (4:Nat)∈([0,1,2,3,4,5]:List Nat) by decide)).symm.trans (show L 6=true from e)) (by decide),fun e=>absurd (q8.symm.trans (show L 8=true from e)) (by decide)⟩⟩
      simp only[Act.put,List.setIfInBounds_toArray,List.set_cons_zero,List.set_cons_succ,List.length_cons,List.length_nil,Nat.zero_add,Nat.reduceAdd]
      apply j_any
      · intro y;go_simp;done
      · intro y L W R hJ h1 h2 h3 hR
        unfold addAt
        go_simp
        simp only[addUpon]
        exact hR _ _ ⟨hJ.gr,hJ.vb,hJ.s2,hJ.s3,hJ.s4,fun _=>rfl,hJ.s6,hJ.s8⟩
      simp only[Act.put,List.setIfInBounds_toArray,List.set_cons_zero,List.set_cons_succ,List.length_cons,List.length_nil,Nat.zero_add,Nat.reduceAdd]
      apply j_any
      · intro y;go_simp;done
      · intro y L W R hJ h1 h2 h3 hR
        obtain ⟨z,k',u',q4,-⟩:=hJ.s4 (h1 4 (show (4:Nat)∈([0,1,2,3,4,5]:List Nat) by decide))
        have q5:y 5=y 4:=hJ.s5 (h1 5 (show (5:Nat)∈([0,1,2,3,4,5]:List Nat) by decide))
        rw[q5,q4]
        unfold addAt
        go_simp
        simp only[addUpon]
        exact hR _ _ ⟨hJ.gr,hJ.vb,hJ.s2,hJ.s3,hJ.s4,hJ.s5,fun _=>q4,hJ.s8⟩
      simp only[Act.put,List.setIfInBounds_toArray,List.set_cons_zero,List.set_cons_succ,List.length_cons,List.length_nil,Nat.zero_add,Nat.reduceAdd]
      apply j_any
      · intro y;go_simp;done
      · intro y L W R hJ h1 h2 h3 hR
        obtain ⟨z,k',u',q4,-⟩:=hJ.s4 (h1 4 (show (4:Nat)∈([0,1,2,3,4,5]:List Nat) by decide))
        have q5:y 5=y 4:=hJ.s5 (h1 5 (show (5:Nat)∈([0,1,2,3,4,5]:List Nat) by decide))
        rw[q5,q4]
        unfold addAt
        go_simp
        simp only[addUpon]
        exact hR _ _ hJ
      simp only[Act.put,List.setIfInBounds_toArray,List.set_cons_zero,List.set_cons_succ,List.length_cons,List.length_nil,Nat.zero_add,Nat.reduceAdd]
      apply j_any
      · intro y;go_simp;done
      · intro y L W R hJ h1 h2 h3 hR
        obtain ⟨z,k',u',q4,hav⟩:=hJ.s4 (h1 4 (show (4:Nat)∈([0,1,2,3,4,5,6]:List Nat) by decide))
        have q6:=(hJ.s6 (h1 6 (show (6:Nat)∈([0,1,2,3,4,5,6]:List Nat) by decide))).symm.trans q4
        have q7:y 6=.agg #[.int .i64 4,.bool false,.string td,k',u']:=by simpa using q6
        have q8:L 8=false:=h2
        have q3:L 3=true:=h1 3 (show (3:Nat)∈([0,1,2,3,4,5,6]:List Nat) by decide)
        obtain ⟨f1,g1,f2,g2,rfl,rfl⟩:=hav.form
        have hbx:=(HBB.out.b.far (hJ.vb q8)).1
        have cz0:=heap_cell hbx 0
        have cf0:=heap_fz hbx 0
        have cz1:=heap_cell hbx 1
        have cf1:=heap_fz hbx 1
        have cz2:=heap_cell hbx 2
        have cf2:=heap_fz hbx 2
        have cz3:=heap_cell hbx 3
        have cf3:=heap_fz hbx 3
        have cz4:=heap_cell hbx 4
        have cf4:=heap_fz hbx 4
        obtain ⟨s1,s2,s3⟩:=set5 hbx (.int .i64 4) (.bool false) (.string td) (.slice f1 (Arx.stA d l 2 z).length g1) (.slice f2 (Arx.stA d l 2 z).length g2)
        have hJ':=hJ
        rw[q8] at hJ'
        have HJ:=Lib.hid (hJ'.set q3 HBB.out.b.1 q4 s1 s2 s3)
        clear hJ hJ' hbx s1 s2 s3 hav
        rw[q7]
        unfold addAt
        go_simp
        simp only[addUpon]
        exact hR _ _ HJ.out
      simp only[Act.put]
      refine j_nil (by kernel_rfl) (by kernel_rfl) ?_ ?_
      · exact ⟨grown_drew (grown_refl _ _),fun _=>(Below.refl _ _).drew,(fun e=>Bool.noConfusion (show false=true from e)),(fun e=>Bool.noConfusion (show false=true from e)),(fun e=>Bool.noConfusion (show false=true from e)),(fun e=>Bool.noConfusion (show false=true from e)),(fun e=>Bool.noConfusion (show false=true from e)),(fun e=>Bool.noConfusion (show false=true from e))⟩
      intro y L W hJ hL
      obtain ⟨k',u',q5,hvb⟩:=hJ.s8 (hL 8 (show 8<9 by decide))
      obtain ⟨z,k2,u2,q6,hav⟩:=hJ.s4 (hL 4 (show 4<9 by decide))
      have q7:=q5.symm.trans q6
      have q8:k'=k2∧u'=u2:=by simpa using q7
      obtain ⟨rfl,rfl⟩:=q8
      have hb1:=HBB.out.b.1
      have hg:=hJ.gr
      have hAA:W.heap[A]? =wc.heap[A]? :=hg.block _ (by have:=lt_of_heap HBB.out.a.1;exact this) (fun e=>by have:=Option.some.inj e;omega)
      have HFA:Hid (EB (C+1) A (A+1) d d td td l (Arx.stA d l 2 z) (.slice a1 l.length c1) (.slice a2 l.length c2) k' u' W):=Lib.hid ⟨⟨hAA.trans HBB.out.a.1,HBB.out.a.2.blocks fun g _ ⟨cs,fr,hh⟩=>hg.block _ (lt_of_heap hh) fun e=>by
        have e:=Option.some.inj e
        subst e
        have:=hb1.symm.trans hh
        injection Option.some.inj this with _ e2 _
        exact absurd e2 (by decide)⟩,⟨hvb,hav.down (by have:=lt_of_heap HBB.out.b.1;have:=HCS.out;omega)⟩⟩
      have HWB:Hid (Below C w W):=Lib.hid (HB7.out.grown hg (by have:=HB7.out.size;have:=HCE.out;omega) (fun k e=>by have:=Option.some.inj e;have:=HCS.out;omega))
      have HSL2:Hid ((Arx.stA d l 2 z).length≤4):=Lib.hid (by have:=Arx.st_len d l 2 z;have:=HL7.out.1;omega)
      have HSW:Hid (A+1<W.heap.size):=Lib.hid (lt_of_heap hvb)
      clear hJ hL hvb hav q5 q6 q7 hb1 hg hAA
      go_wp2_with fail
      go_meet
      case rel=>exact ⟨d,Arx.stA d l 2 z,k',u',HSL2.out,by rw[HTD.out];exact HFA.out,HWB.out,HSW.out⟩
  case rest=>
  obtain ⟨dd,lx,k',u',hlx,heb,hbw,hsz⟩:=hcut
  obtain ⟨f1,g1,f2,g2,rfl,rfl⟩:=heb.b.2.form
  have x2:=heap_cell heb.a.1 2
  have y2:=heap_cell heb.b.1 2
  have hq:=ti_eq d dd
  have HEB:=Lib.hid heb
  have HLX:Hid (l.length≤3∧lx.length≤4):=Lib.hid ⟨HL7.out.1,hlx⟩
  clear HBB HB7 HM7 HL7 heb hlx hsz
  have HBW:=Lib.hid hbw
  clear hbw
  go_upto_region 5 with fail
  clear x2 y2 hq
  refine inv_region [[],[0],[0,1],[],[3],[0,1,2,3,4],[0,1,2,3,4,5]] (fun y L W=>KJ wc (kT l) (kT lx) (L 2) (L 5) (L 6) (y 2) (y 5) (y 6) W) ?_
  apply j_con
  · intro y;go_simp;done
  · intro y L W R hJ h1 h2 h3 hR
    unfold addAt
    go_simp
    simp only[addUpon]
    exact hR _ hJ
  simp only[Act.put,List.setIfInBounds_toArray,List.set_cons_zero,List.set_cons_succ]
  apply j_con
  · intro y;go_simp;done
  · intro y L W R hJ h1 h2 h3 hR
    obtain ⟨z0,z1,z2,z3,z4⟩:=(HEB.out.a.far hJ.bel).cells
    unfold addAt
    go_simp
    simp only[addUpon]
    exact hR _ hJ
  simp only[Act.put,List.setIfInBounds_toArray,List.set_cons_zero,List.set_cons_succ]
  apply j_any
  · intro y;go_simp;done
  · intro y L W R hJ h1 h2 h3 hR
    have q5:L 5=false:=h3 5 (show (2:Nat)∈([0,1,2,3,4]:List Nat) by decide)
    refine addAt_append_row (.const (.slice none 0 0)) (.tmp 40) rfl wc.heap.size (.slice none 0 0) [] rfl (World.ownsRow_nil _ _ _ _) (.slice a1 l.length c1) (kT l) rfl (HEB.out.a.2.far hJ.bel).ks (by have:=HLX.out;simp[kT];omega) hJ.bel.size fun v' w' g1 g2=>hR _ _ ⟨?_,?_,?_,?_⟩
    · exact hJ.bel.grown g2 hJ.bel.size (fun k e=>by cases e)
    · exact fun _ _=>g1
    · exact fun e=>absurd (q5.symm.trans (show L 5=true from e)) (by decide)
    · exact hJ.s6
  simp only[Act.put,List.setIfInBounds_toArray,List.set_cons_zero,List.set_cons_succ,List.length_cons,List.length_nil,Nat.zero_add,Nat.reduceAdd]
  apply j_con
  · intro y;go_simp;done
  · intro y L W R hJ h1 h2 h3 hR
    unfold addAt
    go_simp
    simp only[addUpon]
    exact hR _ hJ
  simp only[Act.put,List.setIfInBounds_toArray,List.set_cons_zero,List.set_cons_succ]
  apply j_con
  · intro y;go_simp;done
  · intro y L W R hJ h1 h2 h3 hR
    obtain ⟨z0,z1,z2,z3,z4⟩:=(HEB.out.b.far hJ.bel).cells
    unfold addAt
    go_simp
    simp only[addUpon]
    exact hR _ hJ
  simp only[Act.put,List.setIfInBounds_toArray,List.set_cons_zero,List.set_cons_succ]
  apply j_any
  · intro y;go_simp;done
  · intro y L W R hJ h1 h2 h3 hR
    have q6:L 6=false:=h3 6 (show (5:Nat)∈([0,1,2,3,4,5]:List Nat) by decide)
    have hr:=hJ.s2 (h1 2 (show (2:Nat)∈([0,1,2,3,4]:List Nat) by decide)) h2
    refine addAt_append_row (.tmp 41) (.tmp 43) rfl wc.heap.size (y 2) (kT l) rfl hr (.slice f1 lx.length g1) (kT lx) rfl (HEB.out.b.2.far hJ.bel).ks (by have:=HLX.out;simp[kT];omega) hJ.bel.size fun v' w' g1 g2=>hR _ _ ⟨?_,?_,?_,?_⟩
    · exact hJ.bel.grown g2 hJ.bel.size (fun k e=>(hr.lt k e).1)
    · exact fun _ e=>Bool.noConfusion (show true=false from e)
    · exact fun _=>g1
    · exact fun e=>absurd (q6.symm.trans (show L 6=true from e)) (by decide)
  simp only[Act.put,List.setIfInBounds_toArray,List.set_cons_zero,List.set_cons_succ,List.length_cons,List.length_nil,Nat.zero_add,Nat.reduceAdd]
  apply j_any
  · intro y;go_simp;done
  · intro y L W R hJ h1 h2 h3 hR
    unfold addAt
    go_simp
    simp only[addUpon]
    exact hR _ _ ⟨hJ.bel,hJ.s2,hJ.s5,fun _=>rfl⟩
  simp only[Act.put,List.setIfInBounds_toArray,List.set_cons_zero,List.set_cons_succ]
  refine j_nil (by kernel_rfl) (by kernel_rfl) ?_ ?_
  · exact ⟨(Below.refl _ _).drew,(fun e=>Bool.noConfusion (show false=true from e)),(fun e=>Bool.noConfusion (show false=true from e)),(fun e=>Bool.noConfusion (show false=true from e))⟩
  intro y L W hJ hL
  have hrow:=hJ.s5 (hL 5 (show 5<7 by decide))
  rw[←hJ.s6 (hL 6 (show 6<7 by decide)),keysF_ti] at hrow
  have HB9:=Lib.hid hJ.bel
  generalize y 6=kv at *
  clear hJ hL
  obtain ⟨ka,kc,rfl⟩:=hrow.sl
  rw[List.length_map] at hrow ⊢
  have HEW:=Lib.hid (HEB.out.far HB9.out)
  have HBWW:Hid (Below C w W):=Lib.hid (HBW.out.trans (HB9.out.mono (by have:=HBW.out.size;have:=HCE.out;omega)))
  have HEV:Hid (∀W',Below W.heap.size W W'→Env W'):=Lib.hid fun W' h=>HE.out.far (by rw[HCE.out];exact HBWW.out.trans (h.mono (by have:=HBWW.out.size;have:=HCE.out;omega)))
  have HSMK:=Lib.hid (keysF_sm HEW.out.a.2.sl HEW.out.b.2.sl)
  have HROW:=Lib.hid hrow
  obtain ⟨n,hn⟩:∃n,(keysF l lx).length=n:=⟨_,rfl⟩
  have HN:=Lib.hid hn
  have hn8:n≤7:=by have:=HLX.out;rw[←hn,keysF_len];omega
  rw[hn]
  clear hrow hn HEB HB9 HBW
  go_wp2_with fail
  go_loopg [7,9] n (fun gh v7 v9 wr=>∃(i:Nat),gh=n-i∧i≤n∧v7=.bool (sameX d dd l lx i)∧v9=.int .i64 i∧Below W.heap.size W wr)
  case atStart=>exact ⟨0,rfl,Nat.zero_le _,by simp[sameX],rfl,Below.refl _ _⟩
  case round=>
    obtain ⟨i,rfl,hi,rfl,rfl,hb⟩:=hrel
    have HB:=Lib.hid hb
    have HEr:=Lib.hid (HEW.out.far hb)
    clear hb
    have hi0:(0:Int)≤(i:Int):=by omega
    by_cases hlt:i<n
    · have hlt':(i:Int)<(n:Int):=by omega
      have hl:i<(keysF l lx).length:=by rw[HN.out];exact hlt
      obtain ⟨g,c9,ek,hck⟩:=HROW.out.cell (j:=i) (t:=TI (keysF l lx)[i]) (by simp[hl])
      rw[List.length_map,HN.out] at ek
      injection ek with ek _ ekc
      subst ek ekc
      have hsm:=HSMK.out _ (List.getElem_mem hl)
      have hst:=sameX_step (d:=d) (d':=dd) hl
      obtain ⟨x,hx⟩:∃x,(keysF l lx)[i]=x:=⟨_,rfl⟩
      rw[hx] at hck hsm hst
      have hq:=ti_eq (Arx.atA d l x) (Arx.atA dd lx x)
      obtain ⟨q,hqq⟩:∃q,decide (Arx.atA d l x=Arx.atA dd lx x)=q:=⟨_,rfl⟩
      rw[hqq] at hq hst
      have HT1:=Lib.hid fun (W2:World) (h2:Below wr.heap.size wr W2)=>atV W2 (HEV.out _ (HB.out.trans (h2.mono HB.out.size))) (HEr.out.a.far h2).2.rd hsm
      have HT2:=Lib.hid fun (W2:World) (h2:Below wr.heap.size wr W2)=>atV W2 (HEV.out _ (HB.out.trans (h2.mono HB.out.size))) (HEr.out.b.far h2).2.rd hsm
      unfold valV at HT1 HT2
      have C0:Hid (∀W2,Below wr.heap.size wr W2→W2.cell? ⟨g,i,none⟩=some (.string (TI x))):=Lib.hid fun W2 h2=>by
        have h3:=HB.out.trans (h2.mono HB.out.size)
        exact (h3.cell (World.block_lt_of_cell? _ _ hck)).trans hck
      obtain ⟨s,hs⟩:∃s,sameX d dd l lx i=s:=⟨_,rfl⟩
      rw[hs] at hst ⊢
      have HST:=Lib.hid hst
      clear hst hs hck hsm hqq hx
      go_wp2_with fail
      cases s with
      | true=>
        refine q_region (fun W2=>Below wr.heap.size wr W2) (by kernel_rfl) (by kernel_rfl) (Below.refl _ _).drew ?_
        repeat (first
          | (refine q_skip ?_ ?_
             · (go_simp;done)
             simp only[Act.put,List.setIfInBounds_toArray,List.set_cons_zero,List.set_cons_succ])
          | (refine q_take (v:= ?_) ?_ ?_ ?_
             rotate_left
             · (go_simp;done)
             · intro W2 hW
               have z5:=C0.out W2 hW
               obtain ⟨x0,x1,x2,x3,x4⟩:=(HEr.out.a.far hW).cells
               obtain ⟨y0,y1,y2,y3,y4⟩:=(HEr.out.b.far hW).cells
               go_simp
               first
               | with_reducible rfl
               | (go_at_call 20;(first | with_reducible refine (HT1.out W2 hW).mono ?_ | with_reducible refine (HT2.out W2 hW).mono ?_);rintro e u ⟨rfl,hb⟩;refine ⟨?_,hW.trans (hb.mono hW.size)⟩;with_reducible rfl)
             simp only[Act.put,List.setIfInBounds_toArray,List.set_cons_zero,List.set_cons_succ]))
        refine q_nil ?_
        intro w2 hw2
        have HB2:=Lib.hid (HB.out.trans (hw2.mono HB.out.size))
        clear hw2
        go_wp2
        go_roundg (n-(i+1))
        case rel=>exact ⟨i+1,rfl,by omega,by rw[HST.out];rfl,by go_num,HB2.out⟩
        case measure=>omega
      | false=>
        refine q_region (fun W2=>Below wr.heap.size wr W2) (by kernel_rfl) (by kernel_rfl) (Below.refl _ _).drew ?_
        repeat (first
          | (refine q_skip ?_ ?_
             · (go_simp;done)
             simp only[Act.put,List.setIfInBounds_toArray,List.set_cons_zero,List.set_cons_succ])
          | (refine q_take (v:= ?_) ?_ ?_ ?_
             rotate_left
             · (go_simp;done)
             · intro W2 hW
               have z5:=C0.out W2 hW
               obtain ⟨x0,x1,x2,x3,x4⟩:=(HEr.out.a.far hW).cells
               obtain ⟨y0,y1,y2,y3,y4⟩:=(HEr.out.b.far hW).cells
               go_simp
               first
               | with_reducible rfl
               | (go_at_call 20;(first | with_reducible refine (HT1.out W2 hW).mono ?_ | with_reducible refine (HT2.out W2 hW).mono ?_);rintro e u ⟨rfl,hb⟩;refine ⟨?_,hW.trans (hb.mono hW.size)⟩;with_reducible rfl)
             simp only[Act.put,List.setIfInBounds_toArray,List.set_cons_zero,List.set_cons_succ]))
        refine q_nil ?_
        intro w2 hw2
        have HB2:=Lib.hid (HB.out.trans (hw2.mono HB.out.size))
        clear hw2
        go_wp2
        go_roundg (n-(i+1))
        case rel=>exact ⟨i+1,rfl,by omega,by rw[HST.out];rfl,by go_num,HB2.out⟩
        case measure=>omega
    · have hlt':¬((i:Int)<(n:Int)):=by omega
      obtain rfl:i=n:=by omega
      have hs:sameX d dd l lx i=decide (d=dd∧l=lx):=by rw[←HN.out];exact sameX_end HEW.out.a.2.vd HEW.out.b.2.vd
      have heq:=equalV wr HEr.out.a.2.rd HEr.out.b.2.rd
      rw[←hs] at heq
      generalize sameX d dd l lx i=s at *
      obtain ⟨x0,x1,x2,x3,x4⟩:=HEr.out.a.cells
      obtain ⟨y0,y1,y2,y3,y4⟩:=HEr.out.b.cells
      unfold valV at heq
      have HEQ:=Lib.hid heq
      clear heq hs
      go_wp2_with fail
      refine HEQ.out.mono ?_
      rintro e w2 ⟨rfl,hb⟩
      have HB2:=Lib.hid (HB.out.trans (hb.mono HB.out.size))
      have HAW:=Lib.hid (awakeV w2 (HEV.out _ HB2.out))
      clear hb x0 x1 x2 x3 x4 y0 y1 y2 y3 y4
      cases s with
      | true=>
        go_wp2_with fail
        refine HAW.out.mono ?_
        rintro e w3 ⟨rfl,hb⟩
        have HB3:=Lib.hid (HB2.out.trans (hb.mono HB2.out.size))
        clear hb
        go_wp2
        go_ret
        exact ⟨rfl,HBWW.out.trans (HB3.out.mono (by have:=HBWW.out.size;have:=HCE.out;omega))⟩
      | false=>
        go_wp2_with fail
        refine HAW.out.mono ?_
        rintro e w3 ⟨rfl,hb⟩
        have HB3:=Lib.hid (HB2.out.trans (hb.mono HB2.out.size))
        clear hb
        go_wp2
        go_ret
        exact ⟨rfl,HBWW.out.trans (HB3.out.mono (by have:=HBWW.out.size;have:=HCE.out;omega))⟩
end
end Go.Proofs.YtpkfnnkbfphfbaaGreatDoor.Se

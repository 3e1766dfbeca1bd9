/- 'check' and 'Valid' over a list of items. -/
import Derived.Test.YtapdbeaoakcjeaaGreatDoorESR
import Derived.Deep.AppendLies
set_option maxRecDepth 100000
set_option maxHeartbeats 40000000
open Go.Lib (hid)
namespace Go.Proofs.YtapdbeaoakcjeaaGreatDoor.Se
open Go.RowKit
def ItemsAt (w:World) (g:Nat) (its:List It):Prop:=∀(i:Nat) (x:It),its[i]? =some x→∀j,j<4→w.cell? ⟨g,i*4+j,none⟩=x.cells[j]?
theorem ItemsAt.below {w w':World} {B g:Nat} {its:List It} (h:ItemsAt w g its) (hb:Below B w w') (hg:g<B):ItemsAt w' g its:=
 fun i x hx j hj=>(hb.cell (p:=⟨g,i*4+j,none⟩) hg).trans (h i x hx j hj)
def dx (its:List It):Option (List Nat):=if its.all ba then endsF its.length (its.map It.kids) else none
def gB (its:List It):Bool:=match dx its with | some E=>decide (br 0 E [] 0≤257) | none=>false
def CheckPost (w:World) (its:List It) (e:Ending) (w':World):Prop:=
 Below w.heap.size w w'∧match dx its with
  | some E=>∃v,e=.returned (.tuple #[v,.bool (decide (br 0 E [] 0≤257))])∧w'.ownsRow w.heap.size 3 1 v E.length (eU E)
  | none=>e=.returned (.tuple #[.slice none 0 0,.bool false])
theorem CheckPost.none_of {w w':World} {its:List It} (hb:Below w.heap.size w w') (h:dx its=none):CheckPost w its (.returned (.tuple #[.slice none 0 0,.bool false])) w':=by
 unfold CheckPost;rw[h];exact ⟨hb,rfl⟩
theorem bl {w w':World} {b B:Nat} {e:TypeId} {z:Nat} {v:Value} {n:Nat} {xs:List Value} (h:w.ownsRow b e z v n xs) (hb:Below B w w') (hv:∀g,v.ownBlock=some g→g<B):w'.ownsRow b e z v n xs:=by
 obtain ⟨hl,h0 | ⟨g,cap,cur,hvv,hg,hh,r⟩⟩:=h
 · exact ⟨hl,.inl h0⟩
 · exact ⟨hl,.inr ⟨g,cap,cur,hvv,hg,by rw[hb.block g (hv g (by rw[hvv];rfl))];exact hh,r⟩⟩
theorem CheckPost.some_of {w w':World} {its:List It} {E:List Nat} {v:Value} {q:Bool} (hb:Below w.heap.size w w') (h:dx its=some E) (hq:q=decide (br 0 E [] 0≤257)) (ho:w'.ownsRow w.heap.size 3 1 v E.length (eU E)):CheckPost w its (.returned (.tuple #[v,.bool q])) w':=by
 unfold CheckPost;rw[h];subst hq;exact ⟨hb,v,rfl,ho⟩
theorem nG (ao:Option Addr) (g cap n:Nat) (its:List It) (m:Int) (w:World) (hn:n≤100000000) (hl:its.length=n) (hao:n≠0→ao=some ⟨g,0,none⟩) (hg:g<w.heap.size)
    (hc:ItemsAt w g its) (ht:∀x∈its,x.text.size<4294967281) (hM:w.cell? ⟨0,0,none⟩=some (.int .i64 m)):
    Calls Tryz.prog 97 #[.slice ao n cap] w (CheckPost w its):=by
 have HC:=hid hc;have HA:=hid hao;have HT:=hid ht;have HM:=hid hM;clear hc hao ht hM;have hbel:Below w.heap.size w (w.alloc (.cells #[.slice ao n cap] 83)):=(ah _ _).alloc (ag _) _;have hcl:(w.alloc (.cells #[.slice ao n cap] 83)).cell? ⟨w.heap.size,0,none⟩=some (.slice ao n cap):=by rw[World.cell?_alloc_at _ _ _ _ rfl];rfl
 have hsz:w.heap.size<(w.alloc (.cells #[.slice ao n cap] 83)).heap.size:=by simp
 have HB0:=hid hbel;have HCL:=hid hcl;have HSZ:=hid hsz;clear hbel hcl hsz
 go_enter Tryz.func97,Tryz.ntmps97
 go_wp2
 generalize w.alloc (.cells #[.slice ao n cap] 83)=wz at *;generalize hB:w.heap.size=B at *;have HBe:=hid hB;clear hB
 go_loopw [10] (fun i wr=>∃k:Nat,k≤n∧i=.int .i64 k∧Below (B+1) wz wr∧(its.take k).all ba=true) (fun i _=>n-(intOf i).toNat)
 case atStart=>exact ⟨0,aE _,rfl,ah _ _,rfl⟩
 case round=>
  obtain ⟨k,hk,rfl,hbl,hall⟩:=hrel;have HL:=hid hbl;have HALL:=hid hall;clear hbl hall;have hszr:B<wr.heap.size:=ap HSZ.out HL.out.size;have hBw:Below B w wr:=HB0.out.trans (HL.out.mono (by omega));have HBW:=hid hBw;clear hBw
  by_cases hlt:k<n
  · have hkl:k<its.length:=by omega
    have hx:its[k]? =some its[k]:=aq hkl;have hia:ItemsAt wr g its:=HC.out.below HBW.out hg;have c0:=hia k _ hx 0 (by omega);have c1:=hia k _ hx 1 (by omega);have c2:=hia k _ hx 2 (by omega);have c3:=hia k _ hx 3 (by omega);simp only[It.cells,List.getElem?_cons_succ,List.getElem?_cons_zero,Nat.add_zero] at c0 c1 c2 c3;have hxt:=HT.out its[k] (List.getElem_mem hkl);have hao:=HA.out (by omega);subst hao;have hM2:wr.cell? ⟨0,0,none⟩=some (.int .i64 m):=(HBW.out.cell (p:=⟨0,0,none⟩) (by show 0<B;omega)).trans HM.out;have HTK:Hid (its.take (k+1)=its.take k++[its[k]]):=hid (by rw[List.take_succ_eq_append_getElem hkl]);have HIN:Hid (its[k]∈its):=hid (List.getElem_mem hkl);clear hia hx;generalize its[k]=x at *;obtain ⟨kind,text,kids,pos⟩:=x;simp only at c0 c1 c2 c3 hxt
    have HP:Hid (∀w:World,0<w.heap.size→w.cell? ⟨0,0,none⟩=some (.int .i64 m)→Calls Tryz.prog 135 #[.agg #[.int .i64 kind,.string text,.int .i64 kids,.int .i64 pos]] w fun e w'=>e=.returned (.bool (ba ⟨kind,text,kids,pos⟩))∧Below w.heap.size w w'):=
     hid (fun w h1 h2=>mP ⟨kind,text,kids,pos⟩ m w hxt h1 h2)
    have h0r:0<wr.heap.size:=by omega
    by_cases hpm:ba ⟨kind,text,kids,pos⟩=true
    · have hnp:(!ba ⟨kind,text,kids,pos⟩)=false:=by rw[hpm];rfl
      have HPM:=hid hpm;clear hpm
      go_wp2_with (go_at_call 135;refine (HP.out _ (by simp) ((World.cell?_alloc_past _ _ _ (by exact h0r)).trans hM2)).mono ?_;rintro e w2 ⟨rfl,hb2⟩;have HB2:=hid hb2;clear hb2)
      go_roundw
      case rel=>exact ⟨k+1,by omega,by go_num,((HL.out.alloc (by omega) _).trans (HB2.out.mono (by simp;omega))),by rw[HTK.out,List.all_append,HALL.out];simp[HPM.out]⟩
      case measure=>simp[intOf];omega
    · have hpm':ba ⟨kind,text,kids,pos⟩=false:=by simpa using hpm
      have hnp:(!ba ⟨kind,text,kids,pos⟩)=true:=by rw[hpm'];rfl
      have HF:Hid (dx its=none):=hid (by
       unfold dx
       have:its.all ba=false:=by
        rw[Bool.eq_false_iff];intro ha;exact hpm (List.all_eq_true.1 ha _ HIN.out)
       rw[this];rfl)
      clear hpm hpm'
      go_wp2_with (go_at_call 135;refine (HP.out _ (by simp) ((World.cell?_alloc_past _ _ _ (by exact h0r)).trans hM2)).mono ?_;rintro e w2 ⟨rfl,hb2⟩;have HB2:=hid hb2;clear hb2)
      go_ret2
      exact CheckPost.none_of (by rw[HBe.out];exact (HBW.out.alloc (by omega) _).trans (HB2.out.mono (by simp;omega))) HF.out
  · have hallp:its.all ba=true:=by have:=HALL.out;rwa [aJ (by omega)] at this
    have HCK:Hid (dx its=endsF n (its.map It.kids)):=hid (by unfold dx;rw[hallp,if_pos rfl,hl]);clear hallp;have hcl2:wr.cell? ⟨B,0,none⟩=some (.slice ao n cap):=(HL.out.cell (p:=⟨B,0,none⟩) (by show B<B+1;omega)).trans HCL.out
    have hends:=wf B g cap n (its.map It.kids) wr (by omega) (by simp[hl]) hszr (by omega) (fun h0=>by rw[hcl2,HA.out h0])
     (fun i h=>by
       have hi:i<its.length:=by simpa using h
       have:=(HC.out.below HBW.out hg) i its[i] (aq hi) 2 (by omega)
       rw[this,List.getElem_map];rfl)
    have h0r:B+1≤wr.heap.size:=hszr;cases e:endsF n (its.map It.kids) with
    | none=>
      have HF:Hid (dx its=none):=hid (by rw[HCK.out,e]);unfold EndsPost at hends;rw[e] at hends;clear e HCK
      go_wp2_with (go_at_call 83;refine hends.mono ?_;rintro e w2 ⟨hb2,rfl⟩)
      go_ret2
      exact CheckPost.none_of (by rw[HBe.out];exact HBW.out.trans (hb2.mono (by omega))) HF.out
    | some E=>
      have HF:Hid (dx its=some E):=hid (by rw[HCK.out,e]);have hlen:=(hZ n (its.map It.kids) E (by simp[hl]) e).1;rw[List.length_map,hl] at hlen;unfold EndsPost at hends;rw[e] at hends;clear e HCK
      go_wp2_with (go_at_call 83;refine hends.mono ?_;rintro e w2 ⟨hb2,v,rfl,ho2⟩)
      have HB2:=hid hb2;have HO2:=hid ho2;obtain ⟨a2,c2,hv2⟩:=bL ho2;subst hv2
      have hh:∃g2,(n≠0→a2=some ⟨g2,0,none⟩)∧g2<w2.heap.size∧∀t (h:t<E.length),w2.cell? ⟨g2,t,none⟩=some (.int .i64 E[t]):=by
       by_cases hn0:n=0
       · refine ⟨0,fun h=>absurd hn0 h,by have:=hb2.size;omega,fun t h=>by omega⟩
       · obtain ⟨g2,c3,hv3,_⟩:=aS ho2 (by omega);cases hv3
         refine ⟨g2,fun _=>rfl,(ho2.lt g2 rfl).2,fun t h=>?_⟩;rw[ho2.cellAt t (by omega)];simp[h]
      obtain ⟨g2,hg2,hl2,hc2⟩:=hh;have hheight:=gA a2 g2 c2 n E w2 (by omega) hlen hg2 hl2 hc2;clear hb2 ho2 hg2 hc2 hends
      go_wp2_with (go_at_call 40;refine hheight.mono ?_;rintro e w3 ⟨rfl,hb3⟩)
      go_ret2
      exact CheckPost.some_of (by rw[HBe.out];exact (HBW.out.trans (HB2.out.mono (by omega))).trans (hb3.mono (by have:=HB2.out.size;omega))) HF.out (by simp;omega)
       (by rw[HBe.out,hlen];exact dt (bl HO2.out hb3 (fun q hq=>(HO2.out.lt q hq).2)) (by omega))
theorem nH (ao:Option Addr) (g cap n:Nat) (its:List It) (m:Int) (w:World) (hn:n≤100000000) (hl:its.length=n) (hao:n≠0→ao=some ⟨g,0,none⟩) (hg:g<w.heap.size)
    (hc:ItemsAt w g its) (ht:∀x∈its,x.text.size<4294967281) (hM:w.cell? ⟨0,0,none⟩=some (.int .i64 m)):
    Calls Tryz.prog 99 #[.slice ao n cap] w fun e w'=>e=.returned (.bool (gB its))∧Below w.heap.size w w':=by
 have hch:=nG ao g cap n its m w hn hl hao hg hc ht hM;unfold CheckPost at hch;cases e:dx its with
 | none=>
   have HF:Hid (gB its=false):=hid (by unfold gB;rw[e]);rw[e] at hch;clear e hao hc ht hM
   go_enter Tryz.func99,Tryz.ntmps99
   go_wp2_with (go_at_call 97;refine hch.mono ?_;rintro e w2 ⟨hb2,rfl⟩)
   go_ret
   exact ⟨ret_bool (by rw[HF.out]),hb2⟩
 | some E=>
   have HF:Hid (gB its=decide (br 0 E [] 0≤257)):=hid (by unfold gB;rw[e]);rw[e] at hch;clear e hao hc ht hM
   go_enter Tryz.func99,Tryz.ntmps99
   go_wp2_with (go_at_call 97;refine hch.mono ?_;rintro e w2 ⟨hb2,v,rfl,ho2⟩)
   go_ret
   exact ⟨ret_bool (by rw[HF.out]),hb2⟩
end Go.Proofs.YtapdbeaoakcjeaaGreatDoor.Se
/- tree.Children, Roots and Children over a valid list. -/
namespace Go.Proofs.YtapdbeaoakcjeaaGreatDoor.Se
open Go.RowKit
def eV:Nat→List Nat→Nat→Nat→List Nat
 | 0,_,_,_=>[]
 | f+1,E,i,up1=>if i<up1 then i::eV f E (E.getD i 0) up1 else []
def trail (E:List Nat) (i up1:Nat):List Nat:=eV (up1-i) E i up1
theorem eW {E:List Nat} {i up1:Nat} (h:¬i<up1):trail E i up1=[]:=by
 unfold trail;rw[show up1-i=0 by omega];rfl
theorem qh {E:List Nat} {up1:Nat} (hE:∀j,j<up1→j<E.getD j 0):∀(f f' i:Nat),up1-i≤f→up1-i≤f'→eV f E i up1=eV f' E i up1:=by
 intro f
 induction f with
 | zero=>intro f' i h _;cases f' with
   | zero=>rfl
   | succ f'=>simp only[eV];rw[if_neg (by omega)]
 | succ f ih=>
   intro f' i h h';cases f' with
   | zero=>simp only[eV];rw[if_neg (by omega)]
   | succ f'=>
     simp only[eV]
     split
     · rename_i hlt
       have:=hE i hlt;rw[ih f' _ (by omega) (by omega)]
     · rfl
theorem eX {E:List Nat} {i up1 e:Nat} (hE:∀j,j<up1→j<E.getD j 0) (h:i<up1) (he:E.getD i 0=e):trail E i up1=i::trail E e up1:=by
 unfold trail;obtain ⟨f,hf⟩:∃f,up1-i=f+1:=⟨up1-i-1,by omega⟩
 have:=hE i h;rw[hf];simp only[eV];rw[if_pos h,he,qh hE f (up1-e) e (by omega) (by omega)]
theorem d7 (ao:Option Addr) (g cap:Nat) (E:List Nat) (from0 up1:Nat) (w:World) (hn:E.length≤1000000000) (hao:E.length≠0→ao=some ⟨g,0,none⟩) (hg:g<w.heap.size)
    (hc:∀t (h:t<E.length),w.cell? ⟨g,t,none⟩=some (.int .i64 E[t])) (hto:up1≤E.length) (hE:∀j,j<up1→j<E.getD j 0) (hE2:∀j,j<E.length→E.getD j 0≤E.length) (hf:from0≤1000000001):
    Calls Tryz.prog 98 #[.slice ao E.length cap,.int .i64 from0,.int .i64 up1] w fun e w'=>∃v,e=.returned v∧w'.ownsRow w.heap.size 3 1 v (trail E from0 up1).length (eU (trail E from0 up1))∧Below w.heap.size w w':=by
 obtain ⟨i0,hi,hz0,hz1,hz2⟩:=info_parts infoInt;have HC:=hid hc;have HA:=hid hao;have HE:=hid hE;have HE2:=hid hE2;clear hc hao hE hE2
 go_enter Tryz.func98,Tryz.ntmps98
 go_wp2
 generalize hB:w.heap.size=B at *;have HBe:=hid hB;clear hB
 go_loopw [7,8] (fun l i wr=>∃(k:Nat) (acc:List Nat),i=.int .i64 k∧k≤1000000001∧wr.ownsRow B 3 1 l acc.length (eU acc)∧Below B w wr∧acc++trail E k up1=trail E from0 up1∧acc.length≤k)
  (fun _ i _=>up1-(intOf i).toNat)
 case atStart=>exact ⟨from0,[],rfl,hf,World.ownsRow_nil _ _ _ _,ah _ _,rfl,aE _⟩
 case round=>
  obtain ⟨k,acc,rfl,hk,hown,hbel,hch,hal⟩:=hrel;have HO:=hid hown;have HB:=hid hbel;have HH:=hid hch;have hsz:=hbel.size;have hbs:B≤wr.heap.size:=by have:=HBe.out;omega
  clear hown hbel hch
  by_cases hlt:k<up1
  · have hkE:k<E.length:=by omega
    have hao:=HA.out (by omega);subst hao;have hst:=eX HE.out hlt rfl;have h1:=HE.out k hlt;have h2:=HE2.out k hkE;have hgd:E.getD k 0=E[k]:=by rw[aw,aq hkE];rfl
    rw[hgd] at hst h1 h2;have hcl:=HC.out k hkE;have HH2:Hid ((acc++[k])++trail E E[k] up1=trail E from0 up1):=hid (by rw[←HH.out,hst];simp);clear hst hgd;generalize E[k]=x at *
    go_wp2_with (at_builtin;refine wpList_append_own _ rfl (.tmp 17) (.tmp 19) 23 rfl B 3 i0 (.int .i64 0) 1 8 Tryz.underlying23 hi hz0 hz1 hz2 rfl (by decide) _ acc.length _ rfl (HO.out.alloc _) ⟨wr.heap.size,0,none⟩ 1 1 [.int .i64 k] rfl rfl (World.news_of_block (cs:=#[.int .i64 k]) (t:=3) (fr:=(0,0)) (heap_alloc_new wr _)) (by simp[Value.oneCell']) (by unfold maxLen;omega) (by omega) (by simp;omega) ?_)
    intro v' w2 hown' hgrow _
    have hcl2:w2.cell? ⟨g,k,none⟩=some (.int .i64 x):=by
     refine hgrow.cell ((World.cell?_alloc_past _ _ _ (by omega)).trans ((HB.out.cell (p:=⟨g,k,none⟩) hg).trans hcl)) (fun e=>?_);have:=(HO.out.lt g e.symm).1
     omega
    have HB2:=hid (((HB.out.alloc hbs _).grown hgrow (by simp;omega) (fun q hq=>(HO.out.lt q hq).1)));obtain ⟨g3,c3,rfl,_⟩:=aS hown' (by omega)
    have HO3:Hid (w2.ownsRow B 3 1 (.slice (some ⟨g3,0,none⟩) (acc.length+1) c3) (acc++[k]).length (eU (acc++[k]))):=hid (by
     rw[aA,aK];simpa [eU] using hown')
    clear hown' hgrow
    go_wp2
    go_roundw
    case rel=>exact ⟨x,acc++[k],rfl,by omega,HO3.out,HB2.out,HH2.out,by rw[aA,aK];omega⟩
    case measure=>simp[intOf];omega
  · have HF:Hid (acc=trail E from0 up1):=hid (by rw[←HH.out,eW hlt,List.append_nil])
    go_wp2
    go_ret
    exact ⟨_,rfl,by rw[←HF.out,HBe.out];exact HO.out,by rw[HBe.out];exact HB.out⟩
structure Vd (its:List It) (E:List Nat):Prop where
 chk:dx its=some E
 high:br 0 E [] 0≤257
 len:E.length=its.length
 up:∀j,j<its.length→j<E.getD j 0
 most:∀j,j<E.length→E.getD j 0≤E.length
theorem gC {w:World} {b:Nat} {v:Value} {E:List Nat} (h:w.ownsRow b 3 1 v E.length (eU E)) (h0:0<w.heap.size):∃ao g cap,v=.slice ao E.length cap∧(E.length≠0→ao=some ⟨g,0,none⟩)∧g<w.heap.size∧∀t (h:t<E.length),w.cell? ⟨g,t,none⟩=some (.int .i64 E[t]):=by
 have h':=h;obtain ⟨_,h1 | ⟨g,cap,cur,hv,_⟩⟩:=h'
 · exact ⟨none,0,0,by rw[h1.1,h1.2],fun h=>absurd h1.2 h,h0,fun t ht=>by omega⟩
 · refine ⟨_,g,cap,hv,fun _=>rfl,(h.lt g (by rw[hv];rfl)).2,fun t ht=>?_⟩;rw[hv] at h;rw[h.cellAt t (by omega)];simp[eU,ht]
theorem ms (ao:Option Addr) (g cap:Nat) (E:List Nat) (from0 up1:Nat) (fi ti:Int) (w:World) (hfi:fi=from0) (hti:ti=up1) (hn:E.length≤1000000000) (hao:E.length≠0→ao=some ⟨g,0,none⟩) (hg:g<w.heap.size)
    (hc:∀t (h:t<E.length),w.cell? ⟨g,t,none⟩=some (.int .i64 E[t])) (hto:up1≤E.length) (hE:∀j,j<up1→j<E.getD j 0) (hE2:∀j,j<E.length→E.getD j 0≤E.length) (hf:from0≤1000000001):
    Calls Tryz.prog 98 #[.slice ao E.length cap,.int .i64 fi,.int .i64 ti] w fun e w'=>∃v,e=.returned v∧w'.ownsRow w.heap.size 3 1 v (trail E from0 up1).length (eU (trail E from0 up1))∧Below w.heap.size w w':=by
 subst hfi hti;exact d7 ao g cap E from0 up1 w hn hao hg hc hto hE hE2 hf
theorem wg (ao:Option Addr) (g cap n:Nat) (its:List It) (E:List Nat) (m:Int) (w:World) (hn:n≤100000000) (hl:its.length=n) (hao:n≠0→ao=some ⟨g,0,none⟩) (hg:g<w.heap.size)
    (hc:ItemsAt w g its) (ht:∀x∈its,x.text.size<4294967281) (hM:w.cell? ⟨0,0,none⟩=some (.int .i64 m)) (hv:Vd its E):
    Calls Tryz.prog 97 #[.slice ao n cap] w fun e w'=>Below w.heap.size w w'∧∃v,e=.returned (.tuple #[v,.bool true])∧w'.ownsRow w.heap.size 3 1 v E.length (eU E):=by
 have hch:=nG ao g cap n its m w hn hl hao hg hc ht hM;unfold CheckPost at hch;rw[hv.chk] at hch;have hhi:decide (br 0 E [] 0≤257)=true:=by simpa using hv.high
 simp only at hch;rw[hhi] at hch;exact hch
theorem nI (ao:Option Addr) (g cap n:Nat) (its:List It) (E:List Nat) (m:Int) (w:World) (hn:n≤100000000) (hl:its.length=n) (hao:n≠0→ao=some ⟨g,0,none⟩) (hg:g<w.heap.size)
    (hc:ItemsAt w g its) (ht:∀x∈its,x.text.size<4294967281) (hM:w.cell? ⟨0,0,none⟩=some (.int .i64 m)) (hv:Vd its E):
    Calls Tryz.prog 55 #[.slice ao n cap] w fun e w'=>∃v,e=.returned v∧w'.ownsRow w.heap.size 3 1 v (trail E 0 n).length (eU (trail E 0 n))∧Below w.heap.size w w':=by
 have hch:=wg ao g cap n its E m w hn hl hao hg hc ht hM hv;have hlen:=hv.len;have HV:=hid hv;clear hao hc ht hM hv
 go_enter Tryz.func55,Tryz.ntmps55
 go_wp2_with fail
 refine hch.mono ?_;rintro e w2 ⟨hb2,v,rfl,ho2⟩;obtain ⟨a2,g2,c2,rfl,r1,r2,r3⟩:=gC ho2 (by have:=hb2.size;omega);have htc:=ms a2 g2 c2 E 0 n 0 n w2 rfl rfl (by omega) r1 r2 r3 (by omega) (fun j hj=>HV.out.up j (by omega)) HV.out.most (by omega);have HB2:=hid hb2;rw[show E.length=n by omega] at htc;clear hb2 ho2 r1 r2 r3 hch
 go_wp2_with (go_at_call 98;refine htc.mono ?_;rintro e w3 ⟨v3,rfl,ho3,hb3⟩)
 go_ret
 exact ⟨v3,rfl,dt ho3 HB2.out.size,HB2.out.trans (hb3.mono HB2.out.size)⟩
end Go.Proofs.YtapdbeaoakcjeaaGreatDoor.Se

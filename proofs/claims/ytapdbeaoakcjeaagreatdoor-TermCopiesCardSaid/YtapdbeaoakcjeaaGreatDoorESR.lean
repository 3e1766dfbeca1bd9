/- 'permitted' tells whether the fields of an item are permitted. -/
import Derived.Test.YtapdbeaoakcjeaaGreatDoorESI
import Derived.Deep.RegionHeld3
import Derived.Deep.AppendLies
set_option maxRecDepth 100000
set_option maxHeartbeats 40000000
open Go.Lib (hid)
namespace Go.Proofs.YtapdbeaoakcjeaaGreatDoor.Se
open Go.RowKit
def fC (c:UInt8):Bool:=decide (32≤c.toNat) && decide (c.toNat≤126)
def ba (x:It):Bool:=
 if x.kind=5 then x.text.data.toList==[]
 else if x.kind=4 then x.text.data.toList.all fC && x.kids==0
 else if x.kind=1∨x.kind=2∨x.kind=3 then x.text.data.toList.all Sx.wb && (x.kids==0 && Sx.wkind x.text.data.toList==x.kind)
 else false
def It.val (x:It):Value:=.agg #[.int .i64 x.kind,.string x.text,.int .i64 x.kids,.int .i64 x.pos]
theorem mP (x:It) (m:Int) (w:World) (hs:x.text.size<4294967281) (hB:0<w.heap.size) (hM:w.cell? ⟨0,0,none⟩=some (.int .i64 m)):
    Calls Tryz.prog 135 #[x.val] w fun e w'=>e=.returned (.bool (ba x))∧Below w.heap.size w w':=by
 have hbw:Below w.heap.size w (w.alloc (.cells #[.int .i64 x.kind,.string x.text,.int .i64 x.kids,.int .i64 x.pos] 88)):=(ah _ _).alloc (ag _) _;have HB:=hid hbw;clear hbw;obtain ⟨kind,text,kids,pos⟩:=x;simp only at hs;unfold It.val
 by_cases h5:kind=5
 · have HF:=hid (show ba ⟨kind,text,kids,pos⟩=text.toList.isEmpty by unfold ba;simp only;rw[if_pos h5,ByteArray.toList_eq];cases text.data.toList <;> rfl);have h5':(kind==5)=true:=by simp[h5]
   clear h5
   go_enter Tryz.func135,Tryz.ntmps135
   go_wp2
   go_ret
   exact ⟨ret_bool (by rw[HF.out]),HB.out⟩
 · have h5':(kind==5)=false:=by simp[h5]
   by_cases h4:kind=4
   · have h4':(kind==4)=true:=by simp[h4]
     have HF:=hid (show ba ⟨kind,text,kids,pos⟩=(text.data.toList.all fC && kids==0) by unfold ba;simp only;rw[if_neg h5,if_pos h4]);clear h4 h5
     go_enter Tryz.func135,Tryz.ntmps135
     go_wp2
     have c1:(w.alloc (.cells #[.int .i64 kind,.string text,.int .i64 kids,.int .i64 pos] 88)).cell? ⟨w.heap.size,1,none⟩=some (.string text):=by rw[World.cell?_alloc_at _ _ _ _ rfl];rfl
     have c2:(w.alloc (.cells #[.int .i64 kind,.string text,.int .i64 kids,.int .i64 pos] 88)).cell? ⟨w.heap.size,2,none⟩=some (.int .i64 kids):=by rw[World.cell?_alloc_at _ _ _ _ rfl];rfl
     generalize w.alloc (.cells #[.int .i64 kind,.string text,.int .i64 kids,.int .i64 pos] 88)=wz at *;generalize hb:w.heap.size=b at *;have HEb:=hid hb;clear hb
     go_loop [3] (fun i=>∃k:Nat,k≤text.size∧i=.int .i64 k∧(text.data.toList.take k).all fC=true) (fun i=>text.size-(intOf i).toNat)
     case atStart=>exact ⟨0,aE _,rfl,rfl⟩
     case round=>
      obtain ⟨k,hk,rfl,ha⟩:=hrel;have HA:=hid ha;clear ha
      by_cases hlt:k<text.size
      · by_cases hd:fC text[k]=true
        · have e1:¬(text[k].toNat:Int)<32:=by simp only[fC,Bool.and_eq_true,decide_eq_true_eq] at hd;omega
          have e2:¬126<(text[k].toNat:Int):=by simp only[fC,Bool.and_eq_true,decide_eq_true_eq] at hd;omega
          have HD:=hid hd;clear hd
          go_wp2
          go_round
          case rel=>exact ⟨k+1,by omega,by go_num,mh fC text k hlt HA.out HD.out⟩
          case measure=>simp[intOf];omega
        · have HF2:Hid (ba ⟨kind,text,kids,pos⟩=false):=hid (by rw[HF.out,oL fC text k hlt hd];rfl)
          by_cases h1:(text[k].toNat:Int)<32
          · clear hd
            go_wp2
            go_ret
            exact ⟨ret_bool (by rw[HF2.out]),by rw[HEb.out];exact HB.out⟩
          · have h2:126<(text[k].toNat:Int):=by simp only[fC,Bool.and_eq_true,decide_eq_true_eq] at hd;omega
            clear hd
            go_wp2
            go_ret
            exact ⟨ret_bool (by rw[HF2.out]),by rw[HEb.out];exact HB.out⟩
      · have HF2:Hid (ba ⟨kind,text,kids,pos⟩=(kids==0)):=hid (by rw[HF.out,oM fC text k hlt HA.out];rfl);clear HA
        go_wp2
        go_ret
        exact ⟨ret_bool (by rw[HF2.out]),by rw[HEb.out];exact HB.out⟩
   · have h4':(kind==4)=false:=by simp[h4]
     by_cases h123:kind=1∨kind=2∨kind=3
     · have HF:=hid (show ba ⟨kind,text,kids,pos⟩=(text.data.toList.all Sx.wb && (kids==0 && Sx.wkind text.data.toList==kind)) by unfold ba;simp only;rw[if_neg h5,if_neg h4,if_pos h123])
       have hor:((kind==1)=true)∨((kind==1)=false∧(kind==2)=true)∨((kind==1)=false∧(kind==2)=false∧(kind==3)=true):=by
        simp only[beq_iff_eq,beq_eq_false_iff_ne,ne_eq];omega
       clear h4 h5 h123;rcases hor with h1' | ⟨h1',h2'⟩ | ⟨h1',h2',h3'⟩
       all_goals
        go_enter Tryz.func135,Tryz.ntmps135
        go_wp2
        have c0:(w.alloc (.cells #[.int .i64 kind,.string text,.int .i64 kids,.int .i64 pos] 88)).cell? ⟨w.heap.size,0,none⟩=some (.int .i64 kind):=by rw[World.cell?_alloc_at _ _ _ _ rfl];rfl
        have c1:(w.alloc (.cells #[.int .i64 kind,.string text,.int .i64 kids,.int .i64 pos] 88)).cell? ⟨w.heap.size,1,none⟩=some (.string text):=by rw[World.cell?_alloc_at _ _ _ _ rfl];rfl
        have c2:(w.alloc (.cells #[.int .i64 kind,.string text,.int .i64 kids,.int .i64 pos] 88)).cell? ⟨w.heap.size,2,none⟩=some (.int .i64 kids):=by rw[World.cell?_alloc_at _ _ _ _ rfl];rfl
        have hM2:(w.alloc (.cells #[.int .i64 kind,.string text,.int .i64 kids,.int .i64 pos] 88)).cell? ⟨0,0,none⟩=some (.int .i64 m):=(World.cell?_alloc_past _ _ _ (by exact hB)).trans hM;have hsz:w.heap.size<(w.alloc (.cells #[.int .i64 kind,.string text,.int .i64 kids,.int .i64 pos] 88)).heap.size:=by simp
        generalize w.alloc (.cells #[.int .i64 kind,.string text,.int .i64 kids,.int .i64 pos] 88)=wz at *;generalize hb:w.heap.size=b at *;have HEb:=hid hb;clear hb hM
        go_loop [4] (fun i=>∃k:Nat,k≤text.size∧i=.int .i64 k∧(text.data.toList.take k).all Sx.wb=true) (fun i=>text.size-(intOf i).toNat)
        case atStart=>exact ⟨0,aE _,rfl,rfl⟩
        case round=>
         obtain ⟨k,hk,rfl,ha⟩:=hrel;have HA:=hid ha;clear ha
         by_cases hlt:k<text.size
         · go_wp2_with (go_at_call 133;refine (gZ _ _).mono ?_;rintro e w' ⟨rfl,rfl⟩)
           · have hd:(!Sx.wb text[k])=true:=by assumption
             have HF2:Hid (ba ⟨kind,text,kids,pos⟩=false):=hid (by rw[HF.out,oL Sx.wb text k hlt (by simpa using hd)];rfl)
             go_ret
             exact ⟨ret_bool (by rw[HF2.out]),by rw[HEb.out];exact HB.out⟩
           · have hd:(!Sx.wb text[k])=false:=by assumption
             go_round
             case rel=>exact ⟨k+1,by omega,by go_num,mh Sx.wb text k hlt HA.out (by simpa using hd)⟩
             case measure=>simp[intOf];omega
         · have HF2:Hid (ba ⟨kind,text,kids,pos⟩=(kids==0 && Sx.wkind text.data.toList==kind)):=hid (by rw[HF.out,oM Sx.wb text k hlt HA.out];rfl);clear HA
           by_cases h0:(kids==0)=true
           · have HF3:Hid (ba ⟨kind,text,kids,pos⟩=(Sx.wkind text.data.toList==kind)):=hid (by rw[HF2.out,h0];rfl)
             go_wp2
             go_region_held3 (fun w'=>w'.cell? ⟨b,0,none⟩=some (.int .i64 kind)∧w'.cell? ⟨b,1,none⟩=some (.string text)∧w'.cell? ⟨b,2,none⟩=some (.int .i64 kids)) (first | go_keep | exact ⟨q0,q1,q2⟩) ((go_at_call 134;refine (gz text m wz.drew hs hM2).mono ?_;rintro e w3 ⟨rfl,hb3⟩;have q0:=(hb3.cell (p:=⟨b,0,none⟩) (by exact hsz)).trans c0;have q1:=(hb3.cell (p:=⟨b,1,none⟩) (by exact hsz)).trans c1;have q2:=(hb3.cell (p:=⟨b,2,none⟩) (by exact hsz)).trans c2;have HB3:=hid hb3;clear hb3))
             go_wp2
             go_ret
             exact ⟨ret_bool (by rw[HF3.out]),by rw[HEb.out];exact (show Below b w wz.drew from aO HB.out 1).trans (HB3.out.mono (aI hsz))⟩
           · have h0':(kids==0)=false:=by simpa using h0
             have HF3:Hid (ba ⟨kind,text,kids,pos⟩=false):=hid (by rw[HF2.out,h0'];rfl);clear h0
             go_wp2
             go_quiet (fail)
             go_wp2
             go_ret
             exact ⟨ret_bool (by rw[HF3.out]),by rw[HEb.out];exact aO HB.out _⟩
     · have HF:=hid (show ba ⟨kind,text,kids,pos⟩=false by unfold ba;simp only;rw[if_neg h5,if_neg h4,if_neg h123]);have h1':(kind==1)=false:=by simp;omega
       have h2':(kind==2)=false:=by simp;omega
       have h3':(kind==3)=false:=by simp;omega
       clear h4 h5 h123
       go_enter Tryz.func135,Tryz.ntmps135
       go_wp2
       go_ret
       exact ⟨ret_bool (by rw[HF.out]),HB.out⟩
end Go.Proofs.YtapdbeaoakcjeaaGreatDoor.Se
/- 'Ends' over the items of a list: where each item's descendants end. -/
namespace Go.Proofs.YtapdbeaoakcjeaaGreatDoor.Se
open Go.RowKit
theorem mn (b g cap n i:Nat) (a:Int) (w:World) (hv:w.cell? ⟨b,0,none⟩=some (.slice (some ⟨g,0,none⟩) n cap)) (hi:i<n) (hc:w.cell? ⟨g,i*4+2,none⟩=some (.int .i64 a)):
    Calls Tryz.prog 136 #[.int .i64 i,.pointer (some ⟨b,0,none⟩)] w fun e w'=>e=.returned (.int .i64 a)∧w=w':=by
 go_enter Tryz.func136,Tryz.ntmps136
 go_wp2
 go_ret
 exact ⟨rfl,rfl⟩
def bn (n base:Nat) (E:List Nat):Nat→Nat→Option Nat
 | 0,e=>some e
 | k+1,e=>if n≤e then none else bn n base E k (E.getD (e-base) 0)
def endsF (n:Nat):List Int→Option (List Nat)
 | []=>some []
 | k::ks=>match endsF n ks with
   | none=>none
   | some E=>if k<0∨(n:Int)<k then none else
     match bn n (n-ks.length) E k.toNat (n-ks.length) with
     | none=>none
     | some e=>some (e::E)
theorem kj (n base:Nat) (E:List Nat) (hE:∀t (h:t<E.length),base+t<E[t]∧E[t]≤n) (hl:base+E.length=n):∀(k e e':Nat),base≤e→e≤n→bn n base E k e=some e'→e≤e'∧e'≤n:=by
 intro k
 induction k with
 | zero=>intro e e' h1 h2 h;simp only[bn] at h;cases h;exact ⟨ag _,h2⟩
 | succ k ih=>
   intro e e' h1 h2 h;simp only[bn] at h
   split at h
   · cases h
   · have hlt:e-base<E.length:=by omega
     rw[aw,aq hlt,Option.getD_some] at h;have hb:=hE (e-base) hlt;have:=ih _ e' (by omega) hb.2 h
     omega
theorem hZ (n:Nat):∀(ks:List Int) (E:List Nat),ks.length≤n→endsF n ks=some E→E.length=ks.length∧∀t (h:t<E.length),n-ks.length+t<E[t]∧E[t]≤n:=by
 intro ks
 induction ks with
 | nil=>intro E _ h;simp only[endsF] at h;cases h;exact ⟨rfl,by intro t h;simp at h⟩
 | cons k ks ih=>
   intro E hl h;simp only[au] at hl;simp only[endsF] at h;cases e:endsF n ks with
   | none=>rw[e] at h;cases h
   | some E'=>
     rw[e] at h;obtain ⟨h1,h2⟩:=ih E' (by omega) e;simp only at h
     split at h
     · cases h
     · cases e2:bn n (n-ks.length) E' k.toNat (n-ks.length) with
       | none=>rw[e2] at h;cases h
       | some x=>
         rw[e2] at h;cases h;have hb:=kj n (n-ks.length) E' h2 (by omega) k.toNat (n-ks.length) x (ag _) (by omega) e2;refine ⟨by simp[h1],?_⟩;intro t ht;cases t with
         | zero=>simp only[au,List.getElem_cons_zero];omega
         | succ t=>
           simp only[au,List.getElem_cons_succ];have:=h2 t (by simp at ht;omega)
           omega
def ew (j:Nat) (E:List Nat):List Value:=List.replicate j (.int .i64 0)++E.map fun n:Nat=>Value.int .i64 n
theorem mo (j e:Nat) (E:List Nat):(ew (j+1) E).set j (.int .i64 e)=ew j (e::E):=by
 unfold ew;rw[List.replicate_succ',List.append_assoc,List.set_append_right _ _ (by simp)]
 simp
theorem mq (j t:Nat) (E:List Nat) (h:t<E.length):(ew j E)[j+t]? =some (.int .i64 E[t]):=by
 unfold ew;rw[List.getElem?_append_right (by simp)]
 simp[h]
def EndsPost (w:World) (n:Nat) (ks:List Int) (e:Ending) (w':World):Prop:=
 Below w.heap.size w w'∧match endsF n ks with
  | some E=>∃v,e=.returned (.tuple #[v,.bool true])∧w'.ownsRow w.heap.size 3 1 v n (E.map fun n:Nat=>Value.int .i64 n)
  | none=>e=.returned (.tuple #[.slice none 0 0,.bool false])
theorem EndsPost.none_of {w w':World} {n:Nat} {ks:List Int} (hb:Below w.heap.size w w') (h:endsF n ks=none):EndsPost w n ks (.returned (.tuple #[.slice none 0 0,.bool false])) w':=by
 unfold EndsPost;rw[h];exact ⟨hb,rfl⟩
theorem EndsPost.some_of {w w':World} {n:Nat} {ks:List Int} {E:List Nat} {v:Value} (hb:Below w.heap.size w w') (h:endsF n ks=some E) (ho:w'.ownsRow w.heap.size 3 1 v n (E.map fun n:Nat=>Value.int .i64 n)):EndsPost w n ks (.returned (.tuple #[v,.bool true])) w':=by
 unfold EndsPost;rw[h];exact ⟨hb,v,rfl,ho⟩
theorem d5 (n:Nat) (ks:List Int):∀j,endsF n (ks.drop j)=none→endsF n ks=none:=by
 intro j
 induction j generalizing ks with
 | zero=>intro h;rwa [List.drop_zero] at h
 | succ j ih=>
   intro h;cases ks with
   | nil=>simpa using h
   | cons a r=>
     rw[List.drop_succ_cons] at h;have:=ih r h;simp only[endsF];rw[this]
theorem d6 (n:Nat):(madeCells (Value.cells (.int .i64 0)) (n*1)).toList=ew n []:=by
 unfold ew;rw[List.map_nil,List.append_nil,List.eq_replicate_iff];refine ⟨by simp[madeCells],fun x hx=>?_⟩;simp only[madeCells,Value.cells,Array.toList_map,List.mem_map] at hx;obtain ⟨a,_,rfl⟩:=hx
 simp[Nat.mod_one]
theorem wf (b g cap n:Nat) (ks:List Int) (w:World) (hn:n≤1000000000) (hks:ks.length=n) (hb:b<w.heap.size) (hg:g<w.heap.size)
    (hv:n≠0→w.cell? ⟨b,0,none⟩=some (.slice (some ⟨g,0,none⟩) n cap)) (hc:∀i (h:i<ks.length),w.cell? ⟨g,i*4+2,none⟩=some (.int .i64 ks[i])):
    Calls Tryz.prog 83 #[.int .i64 n,.func (.func 136) #[] #[.pointer (some ⟨b,0,none⟩)]] w (EndsPost w n ks):=by
 obtain ⟨i0,hi,hz0,hz1,hz2⟩:=info_parts infoInt;have HC:=hid hc;have HV:=hid hv;clear hc hv
 go_enter Tryz.func83,Tryz.ntmps83
 go_wp2_with (refine wpList_make_full _ rfl (.tmp 10) (.tmp 10) 23 rfl w.heap.size 3 i0 (.int .i64 0) 1 Tryz.underlying23 hi hz0 hz1 .i64 .i64 n n n rfl rfl rfl rfl (by rw[hz2];omega) (by unfold maxLen;omega) (ag _) ?_;intro w1 hown hgrow)
 have hbel:Below w.heap.size w w1:=(ah _ _).grown hgrow (ag _) (fun k h=>by cases h)
 have hown0:Hid (w1.ownsRow w.heap.size 3 1 (.slice (some ⟨w.heap.size,0,none⟩) n n) n (ew n [])):=hid (by
  have e:(madeCells (Value.cells (.int .i64 0)) (n*1)).toList=ew n []:=d6 n
  rwa [e] at hown)
 have HB0:=hid hbel;clear hown hgrow hbel;generalize hB:w.heap.size=B at *;have HBe:=hid hB;clear hB
 go_loopw [7] (fun i wr=>∃(j:Nat) (E:List Nat),j≤n∧i=.int .i64 ((j:Int)-1)∧endsF n (ks.drop j)=some E∧wr.ownsRow B 3 1 (.slice (some ⟨B,0,none⟩) n n) n (ew j E)∧Below B w wr)
  (fun i _=>(intOf i+1).toNat)
 case atStart=>exact ⟨n,[],ag _,rfl,by rw[List.drop_of_length_le (by omega)];rfl,hown0.out,HB0.out⟩
 case round=>
  clear hown0 HB0;obtain ⟨j,E,hj,rfl,hE,hown,hbel⟩:=hrel;have HE:=hid hE;have HO:=hid hown;have HB:=hid hbel;clear hE hown hbel;cases j with
  | zero=>
    have HF:Hid (endsF n ks=some E):=hid (by have:=HE.out;rwa [List.drop_zero] at this)
    go_wp2
    go_ret2
    exact EndsPost.some_of (by rw[HBe.out];exact HB.out) HF.out (by rw[HBe.out];have:=HO.out;unfold ew at this;simpa using this)
  | succ j=>
    have hji:((j+1:Nat):Int)-1=(j:Int):=by omega
    rw[hji];have hjk:j<ks.length:=by omega
    have hkc:wr.cell? ⟨g,j*4+2,none⟩=some (.int .i64 ks[j]):=(HB.out.cell (p:=⟨g,j*4+2,none⟩) hg).trans (HC.out j hjk);have hkv:wr.cell? ⟨b,0,none⟩=some (.slice (some ⟨g,0,none⟩) n cap):=(HB.out.cell (p:=⟨b,0,none⟩) hb).trans (HV.out (by omega));have hdrop:endsF n (ks.drop j)=endsF n (ks[j]::ks.drop (j+1)):=by rw[List.drop_eq_getElem_cons hjk]
    have HDr:=hid hdrop;clear hdrop hji;generalize hkk:ks[j]=kk at *;have HKK:=hid hkk;clear hkk;have hEl:=hZ n (ks.drop (j+1)) E (by rw[List.length_drop];omega) HE.out;rw[List.length_drop] at hEl;have hlen:E.length=n-(j+1):=by rw[hEl.1];omega
    have hEb:Hid (∀t (h:t<E.length),j+1+t<E[t]∧E[t]≤n):=hid (fun t h=>by have:=hEl.2 t h;omega);have hll:n-(List.drop (j+1) ks).length=j+1:=by rw[List.length_drop];omega
    have HEq:Hid (endsF n (ks.drop j)=if kk<0∨(n:Int)<kk then none else match bn n (j+1) E kk.toNat (j+1) with | none=>none | some e=>some (e::E)):=hid (by
     rw[HDr.out];simp only[endsF];rw[HE.out,hll])
    clear hEl hll HDr
    by_cases hbad:kk<0∨(n:Int)<kk
    · have HN:Hid (endsF n (ks.drop j)=none):=hid (by rw[HEq.out,if_pos hbad]);have HF:Hid (endsF n ks=none):=hid (d5 n ks j HN.out)
      by_cases hneg:kk<0
      · clear hbad
        go_wp2_with (go_at_call 136;refine (mn b g cap n j kk _ hkv (by omega) hkc).mono ?_;rintro e w2 ⟨rfl,rfl⟩)
        go_ret2
        exact EndsPost.none_of (by rw[HBe.out];exact HB.out) HF.out
      · have hbig:(n:Int)<kk:=by omega
        clear hbad
        go_wp2_with (go_at_call 136;refine (mn b g cap n j kk _ hkv (by omega) hkc).mono ?_;rintro e w2 ⟨rfl,rfl⟩)
        go_ret2
        exact EndsPost.none_of (by rw[HBe.out];exact HB.out) HF.out
    · have hnneg:¬kk<0:=by omega
      have hnbig:¬(n:Int)<kk:=by omega
      have HEq2:Hid (endsF n (ks.drop j)=match bn n (j+1) E kk.toNat (j+1) with | none=>none | some e=>some (e::E)):=hid (by rw[HEq.out,if_neg hbad]);clear hbad HEq
      go_wp2_with (go_at_call 136;refine (mn b g cap n j kk _ hkv (by omega) hkc).mono ?_;rintro e w2 ⟨rfl,rfl⟩)
      go_loop [8,9] (fun k e=>∃(q x:Nat),k=.int .i64 q∧e=.int .i64 x∧(q:Int)≤kk∧j+1≤x∧x≤n∧bn n (j+1) E q x=bn n (j+1) E kk.toNat (j+1)) (fun k _=>(intOf k).toNat)
      case atStart=>exact ⟨kk.toNat,j+1,by rw[Int.toNat_of_nonneg (by omega)],rfl,by omega,ag _,hj,rfl⟩
      case round=>
       obtain ⟨q,x,rfl,rfl,hqk,hx1,hx2,hst⟩:=hrel;have HS:=hid hst;clear hst;cases q with
       | zero=>
         have HX:Hid (endsF n (ks.drop j)=some (x::E)):=hid (by rw[HEq2.out,←HS.out];rfl)
         have hof:∃u,wr.cell? ⟨B,j,none⟩=some u:=⟨.int .i64 0,by
          rw[HO.out.cellAt j (by omega)];unfold ew;rw[List.getElem?_append_left (by simp)];simp⟩
         obtain ⟨u,hu⟩:=hof;have hfz:=HO.out.frozenAt j;have hst2:=hid (HO.out.stored j (.int .i64 x));have hj0:0≤(j:Int)∧(j:Int)<(n:Int):=by omega
         go_wp2
         go_roundw
         case rel=>
          exact ⟨j,x::E,by omega,rfl,HX.out,by have:=hst2.out.1;rwa [mo] at this,HB.out.setCell (ag B) _⟩
         case measure=>simp[intOf]
       | succ q=>
         have hq1:((q+1:Nat):Int)=(q:Int)+1:=by omega
         rw[hq1];clear hq1
         by_cases hxn:n≤x
         · have HF:Hid (endsF n ks=none):=hid (d5 n ks j (by rw[HEq2.out,←HS.out];simp only[bn];rw[if_pos hxn]))
           go_wp2
           go_ret2
           exact EndsPost.none_of (by rw[HBe.out];exact HB.out) HF.out
         · have hxl:x-(j+1)<E.length:=by omega
           have hcx:wr.cell? ⟨B,x,none⟩=some (.int .i64 E[x-(j+1)]):=by
            rw[HO.out.cellAt x (by omega)];have:=mq (j+1) (x-(j+1)) E hxl;rwa [show j+1+(x-(j+1))=x by omega] at this
           have hbd:=hEb.out (x-(j+1)) hxl
           have HS2:Hid (bn n (j+1) E q E[x-(j+1)]=bn n (j+1) E kk.toNat (j+1)):=hid (by
            rw[←HS.out];simp only[bn];rw[if_neg hxn,aw,aq hxl,Option.getD_some])
           generalize E[x-(j+1)]=y at *
           go_wp2
           go_round
           case rel=>exact ⟨q,y,by go_num,rfl,by omega,by omega,hbd.2,HS2.out⟩
           case measure=>simp[intOf]
end Go.Proofs.YtapdbeaoakcjeaaGreatDoor.Se
/- 'Height': how deep a list is nested. -/
namespace Go.Proofs.YtapdbeaoakcjeaaGreatDoor.Se
open Go.RowKit
def bu (i:Nat) (op:List Nat):List Nat:=(op.reverse.dropWhile (decide <| ·≤i)).reverse
def br (i:Nat):List Nat→List Nat→Nat→Nat
 | [],_,best=>best
 | e::r,op,best=>br (i+1) r (bu i op++[e]) (max best ((bu i op).length+1))
theorem mr (i:Nat) (op:List Nat) (x:Nat) (h:x≤i):bu i (op++[x])=bu i op:=by
 unfold bu;simp[h]
theorem uA (i:Nat) (op:List Nat) (x:Nat) (h:¬x≤i):bu i (op++[x])=op++[x]:=by
 unfold bu;simp[h]
def eU (l:List Nat):List Value:=l.map fun n:Nat=>Value.int .i64 n
theorem oO {w:World} {b g cap n:Nat} {xs:List Value} {x:Value} (h:w.ownsRow b 3 1 (.slice (some ⟨g,0,none⟩) (n+1) cap) (n+1) (xs++[x])):w.ownsRow b 3 1 (.slice (some ⟨g,0,none⟩) n cap) n xs:=by
 obtain ⟨hl,h0 | ⟨g',cap',cur,hvv,hg,hh,hn,hc,hsz,ht⟩⟩:=h
 · exact absurd h0.2 (by omega)
 · cases hvv
   simp only[aA,aK,Nat.mul_one] at hl;refine ⟨by omega,.inr ⟨g,cap,cur,rfl,hg,hh,by omega,hc,hsz,?_⟩⟩;have h3:List.take n cur.toList=List.take n (xs++[x]):=by rw[←ht,List.take_take,Nat.mul_one,Nat.min_eq_left (by omega)]
   rw[Nat.mul_one,h3,List.take_append_of_le_length (by omega),aJ (by omega)]
theorem gA (ao:Option Addr) (g cap n:Nat) (E:List Nat) (w:World) (hn:n≤1000000000) (hE:E.length=n) (hao:n≠0→ao=some ⟨g,0,none⟩) (hg:g<w.heap.size)
    (hc:∀t (h:t<E.length),w.cell? ⟨g,t,none⟩=some (.int .i64 E[t])):
    Calls Tryz.prog 40 #[.slice ao n cap] w fun e w'=>e=.returned (.int .i64 (br 0 E [] 0))∧Below w.heap.size w w':=by
 obtain ⟨i0,hi,hz0,hz1,hz2⟩:=info_parts infoInt;have HC:=hid hc;have HA:=hid hao;clear hc hao
 go_enter Tryz.func40,Tryz.ntmps40
 go_wp2
 generalize hB:w.heap.size=B at *;have HBe:=hid hB;clear hB
 go_loopw [3,4,9] (fun bst opn idx wr=>∃(k best:Nat) (op:List Nat),k≤n∧bst=.int .i64 best∧idx=.int .i64 k∧wr.ownsRow B 3 1 opn op.length (eU op)∧Below B w wr∧op.length≤k∧best≤n∧br k (E.drop k) op best=br 0 E [] 0)
  (fun _ _ idx _=>n-(intOf idx).toNat)
 case atStart=>exact ⟨0,0,[],aE _,rfl,rfl,World.ownsRow_nil _ _ _ _,ah _ _,ag _,aE _,rfl⟩
 case round=>
  obtain ⟨k,best,op,hk,rfl,rfl,hown,hbel,hopk,hbest,hh⟩:=hrel;have HO:=hid hown;have HB:=hid hbel;have HH:=hid hh;clear hown hbel hh
  by_cases hlt:k<n
  · have hkE:k<E.length:=by omega
    have hce:wr.cell? ⟨g,k,none⟩=some (.int .i64 E[k]):=(HB.out.cell (p:=⟨g,k,none⟩) hg).trans (HC.out k hkE);have hao:=HA.out (by omega);subst hao;have HH2:Hid (br (k+1) (E.drop (k+1)) (bu k op++[E[k]]) (max best ((bu k op).length+1))=br 0 E [] 0):=hid (by rw[←HH.out,List.drop_eq_getElem_cons hkE];rfl);generalize E[k]=y at *
    go_wp2
    go_loop [4] (fun opn=>∃op2:List Nat,wr.ownsRow B 3 1 opn op2.length (eU op2)∧bu k op2=bu k op∧op2.length≤k) (fun v=>match v with | .slice _ l _=>l | _=>0)
    case atStart=>exact ⟨op,HO.out,rfl,hopk⟩
    case round=>
     obtain ⟨op2,ho2,hp2,hl2⟩:=hrel;have HO2:=hid ho2;have HP2:=hid hp2;obtain ⟨a2,c2,hsl⟩:=bL ho2;clear ho2 hp2
     by_cases hop:op2=[]
     · subst hop;have hnl:(0:Nat)=0:=rfl;rw[aH] at hsl;subst hsl;have HPE:Hid (bu k op=[]):=hid (by rw[←HP2.out];rfl);have HOO:Hid (wr.ownsRow B 3 1 (.slice a2 0 c2) 0 (eU [])):=hid HO2.out
       go_wp2_with (at_builtin;refine wpList_append_own _ rfl (.tmp 32) (.tmp 34) 23 rfl B 3 i0 (.int .i64 0) 1 8 Tryz.underlying23 hi hz0 hz1 hz2 rfl (by decide) _ 0 _ rfl (HOO.out.alloc _) ⟨wr.heap.size,0,none⟩ 1 1 [.int .i64 y] rfl rfl (World.news_of_block (cs:=#[.int .i64 y]) (t:=3) (fr:=(0,0)) (heap_alloc_new wr _)) (by simp[Value.oneCell']) (by unfold maxLen;omega) (by omega) (by have:=HB.out.size;have:=HBe.out;simp;omega) ?_)
       intro v' w2 hown' hgrow _;have HB2:=hid (((HB.out.alloc (by have:=HB.out.size;have:=HBe.out;omega) _).grown hgrow (by have:=HB.out.size;have:=HBe.out;simp;omega) (fun q hq=>(HOO.out.lt q hq).1)));obtain ⟨g3,c3,rfl,_⟩:=aS hown' (by omega);have HO3:=hid hown';clear hown' hgrow
       go_wp2
       go_roundw
       case rel=>exact ⟨k+1,max best 1,[y],by omega,by go_num,by go_num,HO3.out,HB2.out,by simp,by omega,by have:=HH2.out;rw[HPE.out] at this;exact this⟩
       case measure=>simp[intOf];omega
     · obtain ⟨op3,x,hcat⟩:∃op3 x,op2=op3++[x]:=⟨op2.dropLast,op2.getLast hop,(List.dropLast_concat_getLast hop).symm⟩
       subst hcat;clear hop;obtain ⟨g2,c2',hsl2,hg2,hc2,_⟩:=aS HO2.out (by simp);rw[aA,aK] at hc2;have hle2:op3.length≤c2':=by omega
       rw[aA,aK] at hsl2;subst hsl2
       have hcx:wr.cell? ⟨g2,op3.length,none⟩=some (.int .i64 x):=by
        have:=HO2.out;rw[aA,aK] at this;rw[this.cellAt op3.length (by omega)];simp[eU]
       by_cases hxk:x≤k
       · have HI2:Hid (wr.ownsRow B 3 1 (.slice (some ⟨g2,0,none⟩) op3.length c2') op3.length (eU op3)):=hid (by
           have:=HO2.out;rw[aA,aK] at this;unfold eU at this;rw[List.map_append] at this
           exact oO this)
         have HP3:Hid (bu k op3=bu k op):=hid (by rw[←HP2.out,mr k op3 x hxk]);clear hsl;simp only[aA,aK] at hl2
         go_wp2
         go_round
         case rel=>exact ⟨op3,HI2.out,HP3.out,by omega⟩
         case measure=>simp
       · have HPE:Hid (bu k op=op3++[x]):=hid (by rw[←HP2.out,uA k op3 x hxk]);clear hsl;simp only[aA,aK] at hl2;have HOO:Hid (wr.ownsRow B 3 1 (.slice (some ⟨g2,0,none⟩) (op3.length+1) c2') (op3.length+1) (eU (op3++[x]))):=hid (by have:=HO2.out;rwa [aA,aK] at this)
         go_wp2_with (at_builtin;refine wpList_append_own _ rfl (.tmp 32) (.tmp 34) 23 rfl B 3 i0 (.int .i64 0) 1 8 Tryz.underlying23 hi hz0 hz1 hz2 rfl (by decide) _ (op3.length+1) _ rfl (HOO.out.alloc _) ⟨wr.heap.size,0,none⟩ 1 1 [.int .i64 y] rfl rfl (World.news_of_block (cs:=#[.int .i64 y]) (t:=3) (fr:=(0,0)) (heap_alloc_new wr _)) (by simp[Value.oneCell']) (by unfold maxLen;omega) (by omega) (by have:=HB.out.size;have:=HBe.out;simp;omega) ?_)
         intro v' w2 hown' hgrow _;have HB2:=hid (((HB.out.alloc (by have:=HB.out.size;have:=HBe.out;omega) _).grown hgrow (by have:=HB.out.size;have:=HBe.out;simp;omega) (fun q hq=>(HOO.out.lt q hq).1)));obtain ⟨g3,c3,rfl,_⟩:=aS hown' (by omega);have HO3:=hid hown';clear hown' hgrow
         go_wp2
         go_roundw
         case rel=>exact ⟨k+1,max best (op3.length+1+1),op3++[x]++[y],by omega,by go_num,by go_num,by simpa [eU] using HO3.out,HB2.out,by simp;omega,by omega,by have:=HH2.out;rw[HPE.out] at this;simpa using this⟩
         case measure=>simp[intOf];omega
  · have HF:Hid (br 0 E [] 0=best):=hid (by rw[←HH.out,List.drop_of_length_le (by omega)];rfl)
    go_wp2
    go_ret
    exact ⟨ret_int (by rw[HF.out]),by rw[HBe.out];exact HB.out⟩
end Go.Proofs.YtapdbeaoakcjeaaGreatDoor.Se

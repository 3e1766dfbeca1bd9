/- namesAgree. -/
import Derived.Test.YtapdbeaoakcjeaaGreatDoorEUR
import Derived.Test.YtapdbeaoakcjeaaGreatDoorEShelf
import Derived.Test.YtapdbeaoakcjeaaGreatDoorELS
set_option maxRecDepth 100000
set_option maxHeartbeats 40000000
open Go.Lib (hid)
namespace Go.Proofs.YtapdbeaoakcjeaaGreatDoor.Se
open Go.RowKit Nmx
theorem aD (w:World) (o:Obj):Below w.heap.size w (w.alloc o):=(ah _ _).alloc (ag _) _
structure NM (S:Nat) (w:World) (a1:Option Addr) (n1 c1:Nat) (a2:Option Addr) (n2 c2:Nat) (V:List (ByteArray×Int)) (F:List (ByteArray×List Int)) (W:World):Prop where
 bx:W.heap[S]? =some (.cells #[.slice a1 n1 c1,.slice a2 n2 c2] 65 (0,0))
 mv:MapS W (S+1) (asI V)
 mf:∃kvs,MapS W (S+1+1) kvs∧FRel W kvs F
 bel:Below S w W
 le:S≤W.heap.size
theorem NM.far {S:Nat} {w W W':World} {a1 a2:Option Addr} {n1 c1 n2 c2:Nat} {V:List (ByteArray×Int)} {F:List (ByteArray×List Int)} (h:NM S w a1 n1 c1 a2 n2 c2 V F W) (hb:Below W.heap.size W W'):NM S w a1 n1 c1 a2 n2 c2 V F W':=
 ⟨(hb.block _ (ay h.bx)).trans h.bx,h.mv.far hb,let ⟨k,h1,h2⟩:=h.mf;⟨k,h1.far hb,h2.mono fun _ _ h=>h.far hb⟩,h.bel.trans (hb.mono h.le),aC h.le hb.size⟩
theorem NM.putV {S:Nat} {w W W':World} {a1 a2:Option Addr} {n1 c1 n2 c2:Nat} {V:List (ByteArray×Int)} {F:List (ByteArray×List Int)} {s:ByteArray} {v:Int} (h:NM S w a1 n1 c1 a2 n2 c2 V F W) (hm:MapS W' (S+1) (jO s (.int .i64 v) (asI V))) (hg:W.grownBy W' (some (S+1))):NM S w a1 n1 c1 a2 n2 c2 (eY s v V) F W':=by
 refine ⟨(hg.block _ (ay h.bx) (fun e=>by have:=aG e;omega)).trans h.bx,by rw[zK] at hm;exact hm,?_,h.bel.grown hg h.le (fun k e=>by cases e;omega),aC h.le hg.size⟩;obtain ⟨k,h1,h2⟩:=h.mf;exact ⟨k,h1.but (hg.block _ h1.lt (fun e=>by have:=aG e;omega)),h2.mono fun _ _ hr=>hr.grown h.mv hg⟩
theorem NM.putF {S:Nat} {w W W':World} {a1 a2:Option Addr} {n1 c1 n2 c2:Nat} {V:List (ByteArray×Int)} {F:List (ByteArray×List Int)} {s:ByteArray} {v:Value} {l:List Int} {kvs:List (ByteArray×Value)} (h:NM S w a1 n1 c1 a2 n2 c2 V F W) (h1:MapS W (S+1+1) kvs) (h2:FRel W kvs F) (hv:RowV W v l) (hm:MapS W' (S+1+1) (jO s v kvs)) (hg:W.grownBy W' (some (S+1+1))):NM S w a1 n1 c1 a2 n2 c2 V (eY s l F) W':=by
 have hr:∀v l,RowV W v l→RowV W' v l:=fun v l hr=>hr.grown h1 hg
 exact ⟨(hg.block _ (ay h.bx) (fun e=>by have:=aG e;omega)).trans h.bx,h.mv.but (hg.block _ h.mv.lt (fun e=>by have:=aG e;omega)),⟨_,hm,FRel.put (hr _ _ hv) (h2.mono hr)⟩,h.bel.grown hg h.le (fun k e=>by cases e;omega),aC h.le hg.size⟩
theorem jP (w:World):(zeroValue 3).run Tryz.prog w=.ok (.int .i64 0) w:=by kernel_rfl
theorem wq (w:World):(zeroValue 23).run Tryz.prog w=.ok (.slice none 0 0) w:=by kernel_rfl
theorem rS {ts:List Nd} {E:List Nat} {S:List Int} (h:cB E S ts 0 [] []=none):naF ts E S=false:=by unfold naF;rw[h]
theorem cF {P:Program} (t:TypeId) (w:World):(Instr.makeMap t none).run P w=.ok (.map (some w.heap.size)) (w.alloc (.map #[] 0)):=by
 simp[Instr.makeMap,Result.andThen]
section
theorem k8 (ao a1 a2:Option Addr) (g cap n1 c1 n2 c2:Nat) (ts:List Nd) (E:List Nat) (Ss:List Int) (w:World) (hao:ts.length≠0→ao=some ⟨g,0,none⟩) (hg:g<w.heap.size) (hc:NodesAt w g ts) (hl:ts.length≤20000) (hno:∀x∈ts,¬x.op=5):
    Calls Tryz.prog 45 #[.slice ao ts.length cap,.agg #[.slice a1 n1 c1,.slice a2 n2 c2]] w fun e w'=>e=.returned (.bool (naF ts E Ss))∧Below w.heap.size w w':=by
 have hm1:=@cF Tryz.prog 112;have hm2:=@cF Tryz.prog 113;have HC:=hid hc;have HA:=hid hao;have HNO:=hid hno
 have hnm:NM w.heap.size w a1 n1 c1 a2 n2 c2 [] [] (((w.alloc (.cells #[.slice a1 n1 c1,.slice a2 n2 c2] 65)).alloc (.map #[] 0)).alloc (.map #[] 0)):=by
  have h1:=aD w (.cells #[.slice a1 n1 c1,.slice a2 n2 c2] 65);have b0:=heap_alloc_new w (.cells #[.slice a1 n1 c1,.slice a2 n2 c2] 65);have e1:(w.alloc (.cells #[.slice a1 n1 c1,.slice a2 n2 c2] 65)).heap.size=w.heap.size+1:=by simp
  generalize w.alloc (.cells #[.slice a1 n1 c1,.slice a2 n2 c2] 65)=u1 at *;have h2:=aD u1 (.map #[] 0);have b1:=MapS.made u1;have e2:(u1.alloc (.map #[] 0)).heap.size=w.heap.size+1+1:=by simp;omega
  generalize u1.alloc (.map #[] 0)=u2 at *;have h3:=aD u2 (.map #[] 0);have b2:=MapS.made u2;rw[e1] at b1;rw[e2] at b2;exact ⟨(h3.block _ (by omega)).trans ((h2.block _ (by omega)).trans b0),b1.far h3,⟨[],b2,trivial⟩,h1.trans ((h2.mono (by omega)).trans (h3.mono (by omega))),aC (by omega) h3.size⟩
 have HNM:=hid hnm;clear hc hao hno hnm
 go_enter Tryz.func45,Tryz.ntmps45
 go_wp2
 generalize ((w.alloc (.cells #[.slice a1 n1 c1,.slice a2 n2 c2] 65)).alloc (.map #[] 0)).alloc (.map #[] 0)=w1 at *;generalize hS:w.heap.size=S at *;have HS:=hid hS;clear hS hm1 hm2
 go_loopw [22] (fun i wr=>∃(k:Nat) (V:List (ByteArray×Int)) (F:List (ByteArray×List Int)),k≤ts.length∧i=.int .i64 k∧cB E Ss (ts.drop k) k V F=cB E Ss ts 0 [] []∧NM S w a1 n1 c1 a2 n2 c2 V F wr) (fun i _=>ts.length-(intOf i).toNat)
 case atStart=>exact ⟨0,[],[],aE _,rfl,rfl,HNM.out⟩
 case round=>
  obtain ⟨k,V,F,hk,rfl,hI,hnm⟩:=hrel;have HN:=hid hnm;have HI:=hid hI;clear hI hnm HNM
  by_cases hlt:k<ts.length
  · obtain rfl:=HA.out (by omega);have hx:ts[k]? =some ts[k]:=aq hlt;have hia:NodesAt wr g ts:=HC.out.below HN.out.bel hg;have c0:=hia k _ hx 0 (by omega);have c1':=hia k _ hx 1 (by omega);have c2':=hia k _ hx 2 (by omega);have c3:=hia k _ hx 3 (by omega);have c4:=hia k _ hx 4 (by omega);simp only[Nd.cells,List.getElem?_cons_succ,List.getElem?_cons_zero,Nat.add_zero] at c0 c1' c2' c3 c4;have q5:=HNO.out _ (List.getElem_mem hlt);have HST:Hid (cB E Ss (ts[k]::ts.drop (k+1)) k V F=cB E Ss ts 0 [] []):=hid (by rw[←List.drop_eq_getElem_cons hlt];exact HI.out);clear hia hx HI;generalize ts[k]=x at *;obtain ⟨op,sort,name,num,kids⟩:=x;simp only at c0 c1' c2' c3 c4 q5
    by_cases q4:op=4
    · subst q4;have HAL:=hid (HN.out.far (aD wr (.cells #[.int .i64 4,.int .i64 sort,.string name,.string num,.int .i64 kids] 34)));cases hv:bh name V with
      | none=>
        have HF:=hid (eZ 0 hv)
        have HS2:Hid (cB E Ss (ts.drop (k+1)) (k+1) (eY name sort V) F=cB E Ss ts 0 [] []):=hid (by
         rw[←HST.out];simp[cB,hv])
        clear HST hv
        go_wp2_with (first | (at_lookup;go_loud (refine bO rfl 9 3 112 _ _ rfl Tryz.underlying9 Tryz.underlying112 (S+1) _ rfl HAL.out.mv name rfl _ HF.out (jP _) ?_)) | (at_mapUpdate;go_loud (refine cK rfl 9 3 112 _ _ _ rfl Tryz.underlying9 Tryz.underlying112 (S+1) _ rfl HAL.out.mv name rfl (.int .i64 sort) rfl ?_)))
        intro w2 hm hgr;have HN2:=hid (HAL.out.putV hm hgr);clear hm hgr c0 c1' c2' c3 c4
        go_wp2_with fail
        go_roundw
        case rel=>exact ⟨k+1,_,F,by omega,by go_num,HS2.out,HN2.out⟩
        case measure=>simp[intOf];omega
      | some v0=>
        obtain ⟨jf,hjf⟩:=d8 0 hv;have HF:=hid hjf;clear hjf
        by_cases qs:v0=sort
        · subst qs
          have HS2:Hid (cB E Ss (ts.drop (k+1)) (k+1) (eY name v0 V) F=cB E Ss ts 0 [] []):=hid (by
           rw[←HST.out];simp[cB,hv])
          clear HST hv
          go_wp2_with (first | (at_lookup;go_loud (refine bD rfl 9 3 112 _ _ rfl Tryz.underlying9 Tryz.underlying112 (S+1) _ rfl HAL.out.mv name rfl jf (.int .i64 v0) HF.out ?_)) | (at_mapUpdate;go_loud (refine cK rfl 9 3 112 _ _ _ rfl Tryz.underlying9 Tryz.underlying112 (S+1) _ rfl HAL.out.mv name rfl (.int .i64 v0) rfl ?_)))
          intro w2 hm hgr;have HN2:=hid (HAL.out.putV hm hgr);clear hm hgr c0 c1' c2' c3 c4
          go_wp2_with fail
          go_roundw
          case rel=>exact ⟨k+1,_,F,by omega,by go_num,HS2.out,HN2.out⟩
          case measure=>simp[intOf];omega
        · have HNF:Hid (naF ts E Ss=false):=hid (rS (by
            rw[←HST.out];simp[cB,hv,qs]))
          have qs':(v0==sort)=false:=by simp[qs]
          clear HST hv
          go_wp2_with (at_lookup;go_loud (refine bD rfl 9 3 112 _ _ rfl Tryz.underlying9 Tryz.underlying112 (S+1) _ rfl HAL.out.mv name rfl jf (.int .i64 v0) HF.out ?_))
          go_ret
          exact ⟨by rw[HNF.out];rfl,by rw[HS.out];exact HAL.out.bel⟩
    · have g4:(op==4)=false:=by simp[q4]
      have g5:(op==5)=false:=by simp[q5]
      have HS2:Hid (cB E Ss (ts.drop (k+1)) (k+1) V F=cB E Ss ts 0 [] []):=hid (by
       rw[←HST.out];simp[cB,q4,q5])
      have HAL:=hid (HN.out.far (aD wr (.cells #[.int .i64 op,.int .i64 sort,.string name,.string num,.int .i64 kids] 34)))
      go_wp2
      go_roundw
      case rel=>exact ⟨k+1,V,F,by omega,by go_num,HS2.out,HAL.out⟩
      case measure=>simp[intOf];omega
  · have HI2:Hid (cB E Ss ts 0 [] []=some (V,F)):=hid (by
      rw[←HI.out,List.drop_of_length_le (by omega)];rfl)
    clear HI
    go_wp2
    go_loopw [80] (fun i wr=>∃k:Nat,k≤ts.length∧i=.int .i64 k∧(ts.take k).all (fun x=>!(x.op==5 && (bh x.name V).isSome))=true∧NM S w a1 n1 c1 a2 n2 c2 V F wr) (fun i _=>ts.length-(intOf i).toNat)
    case atStart=>exact ⟨0,aE _,rfl,rfl,HN.out⟩
    case round=>
     clear HN hlt hk;obtain ⟨k,hk,rfl,hT,hnm⟩:=hrel;have HN:=hid hnm;have HT:=hid hT;clear hnm hT
     by_cases hlt:k<ts.length
     · obtain rfl:=HA.out (by omega);have hx:ts[k]? =some ts[k]:=aq hlt;have hia:NodesAt wr g ts:=HC.out.below HN.out.bel hg;have c0:=hia k _ hx 0 (by omega);have c1':=hia k _ hx 1 (by omega);have c2':=hia k _ hx 2 (by omega);have c3:=hia k _ hx 3 (by omega);have c4:=hia k _ hx 4 (by omega);simp only[Nd.cells,List.getElem?_cons_succ,List.getElem?_cons_zero,Nat.add_zero] at c0 c1' c2' c3 c4
       have HTK:Hid (∀b:Bool,(!(ts[k].op==5 && (bh ts[k].name V).isSome))=b→(ts.take (k+1)).all (fun x=>!(x.op==5 && (bh x.name V).isSome))=b):=hid (fun b hb=>by
        rw[List.take_add_one,hx,List.all_append,HT.out,←hb];simp)
       have hmem:=List.getElem_mem hlt
       have HFA:Hid ((!(ts[k].op==5 && (bh ts[k].name V).isSome))=false→naF ts E Ss=false):=hid (fun h=>by
        unfold naF;rw[HI2.out];exact Bool.eq_false_iff.2 fun hh=>by rw[List.all_eq_true.1 hh _ hmem] at h;cases h)
       clear hia hx HT hmem;generalize ts[k]=x at *;obtain ⟨op,sort,name,num,kids⟩:=x;simp only at c0 c1' c2' c3 c4;have HAL:=hid (HN.out.far (aD wr (.cells #[.int .i64 op,.int .i64 sort,.string name,.string num,.int .i64 kids] 34)))
       by_cases q5:op=5
       · subst q5;cases hv:bh name V with
         | none=>
           have HF:=hid (eZ 0 hv);have HT2:=hid (HTK.out true (by simp[hv]));clear HTK HFA hv
           go_wp2_with (at_lookup;go_loud (refine bO rfl 9 3 112 _ _ rfl Tryz.underlying9 Tryz.underlying112 (S+1) _ rfl HAL.out.mv name rfl _ HF.out (jP _) ?_))
           go_roundw
           case rel=>exact ⟨k+1,by omega,by go_num,HT2.out,HAL.out⟩
           case measure=>simp[intOf];omega
         | some v0=>
           obtain ⟨jf,hjf⟩:=d8 0 hv;have HF:=hid hjf;have HNF:=hid (HFA.out (by simp[hv]));clear HTK HFA hv hjf
           go_wp2_with (at_lookup;go_loud (refine bD rfl 9 3 112 _ _ rfl Tryz.underlying9 Tryz.underlying112 (S+1) _ rfl HAL.out.mv name rfl jf (.int .i64 v0) HF.out ?_))
           go_ret
           exact ⟨by rw[HNF.out];rfl,by rw[HS.out];exact HAL.out.bel⟩
       · have g5:(op==5)=false:=by simp[q5]
         have HT2:=hid (HTK.out true (by simp[q5]));clear HTK HFA
         go_wp2
         go_roundw
         case rel=>exact ⟨k+1,by omega,by go_num,HT2.out,HAL.out⟩
         case measure=>simp[intOf];omega
     · have HNT:Hid (naF ts E Ss=true):=hid (by
         unfold naF;rw[HI2.out];have:=HT.out;rwa [aJ (by omega)] at this)
       clear HT HI2
       go_wp2
       go_ret
       exact ⟨by rw[HNT.out];rfl,by rw[HS.out];exact HN.out.bel⟩
end
end Go.Proofs.YtapdbeaoakcjeaaGreatDoor.Se
/- namesAgree at any nodes. -/
namespace Go.Proofs.YtapdbeaoakcjeaaGreatDoor.Se
open Go.RowKit Nmx
section
theorem e6 (g cap ge c1 gs c2:Nat) (ts:List Nd) (E:List Nat) (Ss:List Int) (w:World) (hg:g<w.heap.size) (hc:NodesAt w g ts) (hl:ts.length≤20000) (hen:endsF ts.length (ts.map Nd.kids)=some E) (hSl:Ss.length=ts.length) (hge:ge<w.heap.size) (hgs:gs<w.heap.size) (hcE:∀t,t<ts.length→w.cell? ⟨ge,t,none⟩=some (.int .i64 (E.getD t 0:Nat))) (hcS:∀t,t<ts.length→w.cell? ⟨gs,t,none⟩=some (.int .i64 (Ss.getD t 0))):
    Calls Tryz.prog 45 #[.slice (some ⟨g,0,none⟩) ts.length cap,.agg #[.slice (some ⟨ge,0,none⟩) ts.length c1,.slice (some ⟨gs,0,none⟩) ts.length c2]] w fun e w'=>e=.returned (.bool (naF ts E Ss))∧Below w.heap.size w w':=by
 have hm1:=@cF Tryz.prog 112;have hm2:=@cF Tryz.prog 113;have HC:=hid hc;obtain ⟨k1,k2,k3,k4⟩:=jL (n:=ts.length) (ks:=ts.map Nd.kids) (by simp) hen
 have hks:∀(W:World),Below w.heap.size w W→∀i,i<ts.length→Calls Tryz.prog 73 #[.agg #[.slice (some ⟨ge,0,none⟩) ts.length c1,.slice (some ⟨gs,0,none⟩) ts.length c2],.int .i64 i] W fun e w'=>∃v,e=.returned v∧w'.ownsRow W.heap.size 3 1 v (aU E Ss i).length (aX (aU E Ss i))∧Below W.heap.size W w':=fun W hW i hi=>by
  have:=eE (some ⟨ge,0,none⟩) (some ⟨gs,0,none⟩) ge gs c1 c2 E Ss i W (by omega) (by omega) (fun _=>rfl) (fun _=>rfl) (ap hge hW.size) (ap hgs hW.size) (fun t ht=>by
   rw[(hW.cell (p:=⟨ge,t,none⟩) hge).trans (hcE t (by omega)),aw,aq ht];rfl) (fun t ht=>(hW.cell (p:=⟨gs,t,none⟩) hgs).trans (hcS t (by omega))) (by omega) (fun j hj=>k2 j (by omega)) (fun j hj=>by rw[k1];exact k3 j (by omega))
  rwa [k1] at this
 have hkl:∀i,i<ts.length→(aU E Ss i).length≤20000:=fun i hi=>by
  have h1:=eI E (i+1) (E.getD i 0);have h2:=k3 i hi;unfold aU;rw[List.length_map];omega
 have HKS:=hid hks;have HKL:=hid hkl;obtain ⟨i0,hi0,hz0,hz1,hz2⟩:=info_parts infoInt
 have hnm:NM w.heap.size w (some ⟨ge,0,none⟩) ts.length c1 (some ⟨gs,0,none⟩) ts.length c2 [] [] (((w.alloc (.cells #[.slice (some ⟨ge,0,none⟩) ts.length c1,.slice (some ⟨gs,0,none⟩) ts.length c2] 65)).alloc (.map #[] 0)).alloc (.map #[] 0)):=by
  have h1:=aD w (.cells #[.slice (some ⟨ge,0,none⟩) ts.length c1,.slice (some ⟨gs,0,none⟩) ts.length c2] 65);have b0:=heap_alloc_new w (.cells #[.slice (some ⟨ge,0,none⟩) ts.length c1,.slice (some ⟨gs,0,none⟩) ts.length c2] 65);have e1:(w.alloc (.cells #[.slice (some ⟨ge,0,none⟩) ts.length c1,.slice (some ⟨gs,0,none⟩) ts.length c2] 65)).heap.size=w.heap.size+1:=by simp
  generalize w.alloc (.cells #[.slice (some ⟨ge,0,none⟩) ts.length c1,.slice (some ⟨gs,0,none⟩) ts.length c2] 65)=u1 at *;have h2:=aD u1 (.map #[] 0);have b1:=MapS.made u1;have e2:(u1.alloc (.map #[] 0)).heap.size=w.heap.size+1+1:=by simp;omega
  generalize u1.alloc (.map #[] 0)=u2 at *;have h3:=aD u2 (.map #[] 0);have b2:=MapS.made u2;rw[e1] at b1;rw[e2] at b2;exact ⟨(h3.block _ (by omega)).trans ((h2.block _ (by omega)).trans b0),b1.far h3,⟨[],b2,trivial⟩,h1.trans ((h2.mono (by omega)).trans (h3.mono (by omega))),aC (by omega) h3.size⟩
 have HNM:=hid hnm;clear hc hnm hen hks hkl k1 k2 k3 k4 hcE hcS
 go_enter Tryz.func45,Tryz.ntmps45
 go_wp2
 generalize ((w.alloc (.cells #[.slice (some ⟨ge,0,none⟩) ts.length c1,.slice (some ⟨gs,0,none⟩) ts.length c2] 65)).alloc (.map #[] 0)).alloc (.map #[] 0)=w1 at *;generalize hS:w.heap.size=S at *;have HS:=hid hS;clear hS hm1 hm2
 go_loopw [22] (fun i wr=>∃(k:Nat) (V:List (ByteArray×Int)) (F:List (ByteArray×List Int)),k≤ts.length∧i=.int .i64 k∧cB E Ss (ts.drop k) k V F=cB E Ss ts 0 [] []∧NM S w (some ⟨ge,0,none⟩) ts.length c1 (some ⟨gs,0,none⟩) ts.length c2 V F wr) (fun i _=>ts.length-(intOf i).toNat)
 case atStart=>exact ⟨0,[],[],aE _,rfl,rfl,HNM.out⟩
 case round=>
  obtain ⟨k,V,F,hk,rfl,hI,hnm⟩:=hrel;have HN:=hid hnm;have HI:=hid hI;clear hI hnm HNM
  by_cases hlt:k<ts.length
  · have hx:ts[k]? =some ts[k]:=aq hlt;have hia:NodesAt wr g ts:=HC.out.below HN.out.bel hg;have c0:=hia k _ hx 0 (by omega);have c1':=hia k _ hx 1 (by omega);have c2':=hia k _ hx 2 (by omega);have c3:=hia k _ hx 3 (by omega);have c4:=hia k _ hx 4 (by omega);simp only[Nd.cells,List.getElem?_cons_succ,List.getElem?_cons_zero,Nat.add_zero] at c0 c1' c2' c3 c4;have HKSk:=hid (fun W hW=>HKS.out W hW k hlt);have HKLk:=hid (HKL.out k hlt);have HST:Hid (cB E Ss (ts[k]::ts.drop (k+1)) k V F=cB E Ss ts 0 [] []):=hid (by rw[←List.drop_eq_getElem_cons hlt];exact HI.out);clear hia hx HI;generalize ts[k]=x at *;obtain ⟨op,sort,name,num,kids⟩:=x;simp only at c0 c1' c2' c3 c4
    by_cases q4:op=4
    · subst q4;have HAL:=hid (HN.out.far (aD wr (.cells #[.int .i64 4,.int .i64 sort,.string name,.string num,.int .i64 kids] 34)));cases hv:bh name V with
      | none=>
        have HF:=hid (eZ 0 hv)
        have HS2:Hid (cB E Ss (ts.drop (k+1)) (k+1) (eY name sort V) F=cB E Ss ts 0 [] []):=hid (by
         rw[←HST.out];simp[cB,hv])
        clear HST hv
        go_wp2_with (first | (at_lookup;go_loud (refine bO rfl 9 3 112 _ _ rfl Tryz.underlying9 Tryz.underlying112 (S+1) _ rfl HAL.out.mv name rfl _ HF.out (jP _) ?_)) | (at_mapUpdate;go_loud (refine cK rfl 9 3 112 _ _ _ rfl Tryz.underlying9 Tryz.underlying112 (S+1) _ rfl HAL.out.mv name rfl (.int .i64 sort) rfl ?_)))
        intro w2 hm hgr;have HN2:=hid (HAL.out.putV hm hgr);clear hm hgr c0 c1' c2' c3 c4
        go_wp2_with fail
        go_roundw
        case rel=>exact ⟨k+1,_,F,by omega,by go_num,HS2.out,HN2.out⟩
        case measure=>simp[intOf];omega
      | some v0=>
        obtain ⟨jf,hjf⟩:=d8 0 hv;have HF:=hid hjf;clear hjf
        by_cases qs:v0=sort
        · subst qs
          have HS2:Hid (cB E Ss (ts.drop (k+1)) (k+1) (eY name v0 V) F=cB E Ss ts 0 [] []):=hid (by
           rw[←HST.out];simp[cB,hv])
          clear HST hv
          go_wp2_with (first | (at_lookup;go_loud (refine bD rfl 9 3 112 _ _ rfl Tryz.underlying9 Tryz.underlying112 (S+1) _ rfl HAL.out.mv name rfl jf (.int .i64 v0) HF.out ?_)) | (at_mapUpdate;go_loud (refine cK rfl 9 3 112 _ _ _ rfl Tryz.underlying9 Tryz.underlying112 (S+1) _ rfl HAL.out.mv name rfl (.int .i64 v0) rfl ?_)))
          intro w2 hm hgr;have HN2:=hid (HAL.out.putV hm hgr);clear hm hgr c0 c1' c2' c3 c4
          go_wp2_with fail
          go_roundw
          case rel=>exact ⟨k+1,_,F,by omega,by go_num,HS2.out,HN2.out⟩
          case measure=>simp[intOf];omega
        · have HNF:Hid (naF ts E Ss=false):=hid (rS (by
            rw[←HST.out];simp[cB,hv,qs]))
          have qs':(v0==sort)=false:=by simp[qs]
          clear HST hv
          go_wp2_with (at_lookup;go_loud (refine bD rfl 9 3 112 _ _ rfl Tryz.underlying9 Tryz.underlying112 (S+1) _ rfl HAL.out.mv name rfl jf (.int .i64 v0) HF.out ?_))
          go_ret
          exact ⟨by rw[HNF.out];rfl,by rw[HS.out];exact HAL.out.bel⟩
    · by_cases q5:op=5
      · subst q5;have hDx:=heap_alloc_new wr (.cells #[.int .i64 5,.int .i64 sort,.string name,.string num,.int .i64 kids] 34);have HAL:=hid (HN.out.far (aD wr (.cells #[.int .i64 5,.int .i64 sort,.string name,.string num,.int .i64 kids] 34)));have HD:=hid hDx;clear hDx HN
        go_upto_region 13 with fail
        generalize wr.alloc (.cells #[.int .i64 5,.int .i64 sort,.string name,.string num,.int .i64 kids] 34)=w0 at *;generalize wr.heap.size=D at *;have HDl:=hid (ay HD.out);have HSl:=hid (ay HAL.out.bx);refine aV [[],[],[0,1],[],[3],[3,4],[0,1,2,3,4,5],[0,1,2,3,4,5,6]] (fun W=>Below w0.heap.size w0 W) (fun _=>True) ?_
        iterate 2
         apply aR
         · intro x;go_simp;done
         · intro x W R hW hF hR;have b0:=(hW.cell (p:=⟨S,0,none⟩) HSl.out).trans (ac HAL.out.bx 0);have b1:=(hW.cell (p:=⟨S,1,none⟩) HSl.out).trans (ac HAL.out.bx 1);clear hF;unfold aN
           go_simp
           simp only[aF];exact hR _ (ah _ _)
         simp only[Act.put,aa,aj,am]
        refine cY (fun v W=>W.ownsRow w0.heap.size 3 1 v (aU E Ss k).length (aX (aU E Ss k))) (fun _ _ _ h hb=>bl h hb (fun g hg=>(h.lt g hg).2)) ?_ ?_ ?_
        · intro x;go_simp;done
        · intro x W R hW hF hR;have b0:=(hW.cell (p:=⟨S,0,none⟩) HSl.out).trans (ac HAL.out.bx 0);have b1:=(hW.cell (p:=⟨S,1,none⟩) HSl.out).trans (ac HAL.out.bx 1);clear hF;unfold aN
          go_simp
          simp only[aF];refine (HKSk.out W (HAL.out.bel.trans (hW.mono HAL.out.le))).mono ?_;rintro e w4 ⟨v,rfl,hv,hb4⟩;exact ⟨v,rfl,hR _ _ (dt hv hW.size) hb4⟩
        simp only[Act.put,aa,aj,am,au,aH,Nat.zero_add,Nat.reduceAdd]
        iterate 2
         apply aR
         · intro x;go_simp;done
         · intro x W R hW hF hR;have d0:=(hW.cell (p:=⟨D,0,none⟩) HDl.out).trans (ac HD.out 0);have d1:=(hW.cell (p:=⟨D,1,none⟩) HDl.out).trans (ac HD.out 1);clear hF;unfold aN
           go_simp
           simp only[aF];exact hR _ (ah _ _)
         simp only[Act.put,aa,aj,am]
        refine cY (fun u W=>∃B,u=.slice (some ⟨B,0,none⟩) 1 1∧W.heap[B]? =some (.cells #[.int .i64 sort] 3 (0,0))) (fun _ _ _ h hb=>let ⟨B,h1,h2⟩:=h;⟨B,h1,(hb.block _ (ay h2)).trans h2⟩) ?_ ?_ ?_
        · intro x;go_simp;done
        · intro x W R hW hF hR;clear hF;unfold aN
          go_simp
          simp only[aF];exact hR _ _ ⟨W.heap.size,rfl,heap_alloc_new W _⟩ (aD W _)
        simp only[Act.put,aa,aj,am,au,aH,Nat.zero_add,Nat.reduceAdd];refine fG (fun x W=>Below w0.heap.size w0 W∧W.ownsRow w0.heap.size 3 1 (x 6) ((aU E Ss k).length+1) (aX (aU E Ss k++[sort]))) (fun _ _ _ h hb=>⟨h.1.trans (hb.mono h.1.size),bl h.2 hb (fun g hg=>(h.2.lt g hg).2)⟩) (fun x x' w h hT=>by have e:=h 6 (.inl rfl);rw[e] at hT;exact hT) ?_ ?_ ?_
        · intro x;go_simp;done
        · intro x W R hW hF hD hR;obtain ⟨B2,hx2,hB2⟩:=hF.1.2 rfl rfl rfl;have hown:=hF.2.2.2.1.2 rfl rfl rfl;simp only[AK.fact] at hown;have hkl:=HKLk.out;clear hF;simp only[hx2];refine dJ (.tmp 54) (.tmp 57) 23 rfl w0.heap.size 3 i0 _ 1 8 Tryz.underlying23 hi0 hz0 hz1 hz2 rfl (by decide) (x 2) (aU E Ss k).length (aX (aU E Ss k)) rfl hown ⟨B2,0,none⟩ 1 1 [.int .i64 sort] rfl rfl (World.news_of_block (cs:=#[.int .i64 sort]) (t:=3) (fr:=(0,0)) hB2) (by simp[Value.oneCell']) (by unfold maxLen;omega) (by omega) hW.size ?_;intro v' w' hrow hg;refine hR _ _ ?_ trivial hg.size;show Below w0.heap.size w0 w'∧w'.ownsRow w0.heap.size 3 1 (bM x 6 v' 6) ((aU E Ss k).length+1) (aX (aU E Ss k++[sort]));rw[bp];exact ⟨hW.grown hg hW.size (fun q e=>(hown.lt q e).1),by unfold aX at hrow ⊢;rw[List.map_append];exact hrow⟩
        simp only[Act.put,aa,aj,am,au,aH,Nat.zero_add,Nat.reduceAdd];refine ez (fun x=>x 7=x 6) (fun x x' hx h=>by rw[←hx 7 (.inl rfl),←hx 6 (.inr (List.contains_iff_mem.1 rfl))];exact h) ?_ ?_ ?_
        · intro x;go_simp;done
        · intro x W R hW hF hR;clear hF hW;unfold aN
          go_simp
          simp only[aF];refine hR _ _ ?_ (ah _ _);show bM x 7 _ 7=bM x 7 _ 6;rw[bp,bC (i:=7) (j:=6) _ _ (by decide)]
        simp only[Act.put,aa,aj,am,au,aH,Nat.zero_add,Nat.reduceAdd];refine cz (by kernel_rfl) (by kernel_rfl) (by kernel_rfl) (fun _ _ h hb=>h.trans (hb.mono h.size)) (fun _ _ _ _=>trivial) (fun _ _=>trivial) (aQ (ah _ _) 1) ?_;intro x W hE hW hF hD;clear hD;have hx7:=hF.1.1;have hm6:=hF.2.1.2 rfl;simp only[AK.free,AK.fact] at hx7 hm6;obtain ⟨hbW,hrow⟩:=hm6
        have hsl:∃gr cr,x 6=.slice (some ⟨gr,0,none⟩) ((aU E Ss k).length+1) cr:=by
         obtain ⟨_,h1 | ⟨g,cap,cur,hv,_⟩⟩:=id hrow
         · exact absurd h1.2 (by omega)
         · exact ⟨g,cap,hv⟩
        obtain ⟨gr,cr,hx6⟩:=hsl;rw[hx6] at hx7 hrow
        have HRV:Hid (RowV W (.slice (some ⟨gr,0,none⟩) ((aU E Ss k).length+1) cr) (aU E Ss k++[sort])):=hid ⟨gr,cr,by rw[aA];rfl,⟨fun _=>rfl,(hrow.lt gr rfl).2,by rw[aA];simp;have:=HKLk.out;omega,fun t ht=>by
         rw[hrow.cellAt t (by rw[aA] at ht;simpa using ht)];unfold aX;rw[List.getElem?_map,aq ht];rfl⟩,by rw[aA];simp⟩
        have HN3:=hid (HAL.out.far hbW);have HD3:=hid ((hbW.block _ HDl.out).trans HD.out);have d0:=ac HD3.out 0;have d1:=ac HD3.out 1;have d2:=ac HD3.out 2;clear hF hW hrow hx6 hbW HAL HD;simp only[hx7];obtain ⟨kvs,hmk1,hmk2⟩:=HN3.out.mf;cases hv:bh name F with
        | none=>
          have HF:=hid (FRel.none 0 hmk2 hv);have HS2:Hid (cB E Ss (ts.drop (k+1)) (k+1) V (eY name (aU E Ss k++[sort]) F)=cB E Ss ts 0 [] []):=hid (by rw[←HST.out];simp[cB,hv]);clear HST hv
          go_wp2_with (first | (at_lookup;go_loud (refine bO rfl 9 23 113 _ _ rfl Tryz.underlying9 Tryz.underlying113 (S+1+1) _ rfl hmk1 name rfl _ HF.out (wq _) ?_)) | (at_mapUpdate;go_loud (refine cK rfl 9 23 113 _ _ _ rfl Tryz.underlying9 Tryz.underlying113 (S+1+1) _ rfl hmk1 name rfl (.slice (some ⟨gr,0,none⟩) ((aU E Ss k).length+1) cr) rfl ?_)))
          intro w2 hm hgr;have HN2:=hid (HN3.out.putF hmk1 hmk2 HRV.out hm hgr);clear hm hgr c0 c1' c2' c3 c4 hmk1 hmk2
          go_wp2_with fail
          go_roundw
          case rel=>exact ⟨k+1,V,_,by omega,by go_num,HS2.out,HN2.out⟩
          case measure=>simp[intOf];omega
        | some l0=>
          obtain ⟨jf,vf,hjf,hrv0⟩:=FRel.some 0 hmk2 hv;obtain ⟨g0,c00,rfl,hrow0,hpos0⟩:=hrv0;have HF:=hid hjf
          have heq:=Tryz.slices_Equal_int g0 0 l0.length c00 gr 0 ((aU E Ss k).length+1) cr l0 (aU E Ss k++[sort]) W (ag _) (by rw[aA];exact ag _) (by have:=hrow0.few;omega) (by have:=HKLk.out;omega) (fun j hj=>by rw[Nat.zero_add];exact hrow0.get hj) (fun j hj=>by
           obtain ⟨g1,c1,e1,hr1,-⟩:=HRV.out;have e2:gr=g1:=by injection e1 with e;injection e with e;injection e
           subst e2
           rw[Nat.zero_add];exact hr1.get hj)
          rw[List.take_length,aJ (by rw[aA];exact ag _)] at heq;have HEQ:=hid heq;clear heq hjf hrow0
          by_cases qe:l0=aU E Ss k++[sort]
          · have HS2:Hid (cB E Ss (ts.drop (k+1)) (k+1) V (eY name (aU E Ss k++[sort]) F)=cB E Ss ts 0 [] []):=hid (by rw[←HST.out];simp[cB,hv,qe]);have qb:(l0==aU E Ss k++[sort])=true:=by rw[qe];exact beq_self_eq_true _
            rw[qb] at HEQ;clear HST hv qe qb
            go_wp2_with (at_lookup;go_loud (refine bD rfl 9 23 113 _ _ rfl Tryz.underlying9 Tryz.underlying113 (S+1+1) _ rfl hmk1 name rfl jf (.slice (some ⟨g0,0,none⟩) l0.length c00) HF.out ?_))
            refine HEQ.out.mono ?_;rintro e w5 ⟨rfl,q,rfl⟩;have HN4:=hid (HN3.out.far (aO (ah _ _) q));have HRV4:=hid (HRV.out.far (aO (ah _ _) q));have hmk3:=hmk1.far (aO (ah _ _) q);have hmk4:=hmk2.mono (fun _ _ h=>h.far (aO (ah W.heap.size W) q));have HD4:=hid (((aO (ah W.heap.size W) q).block _ (ay HD3.out)).trans HD3.out);clear HN3 HRV hmk1 hmk2 HD3 d0 d1 d2 c0 c1' c2' c3 c4;generalize W.drewN q=w5 at *;have d0:=ac HD4.out 0;have d1:=ac HD4.out 1;have d2:=ac HD4.out 2
            go_wp2_with (at_mapUpdate;go_loud (refine cK rfl 9 23 113 _ _ _ rfl Tryz.underlying9 Tryz.underlying113 (S+1+1) _ rfl hmk3 name rfl (.slice (some ⟨gr,0,none⟩) ((aU E Ss k).length+1) cr) rfl ?_))
            intro w2 hm hgr;have HN2:=hid (HN4.out.putF hmk3 hmk4 HRV4.out hm hgr);clear hm hgr hmk3 hmk4
            go_wp2_with fail
            go_roundw
            case rel=>exact ⟨k+1,V,_,by omega,by go_num,HS2.out,HN2.out⟩
            case measure=>simp[intOf];omega
          · have HNF:Hid (naF ts E Ss=false):=hid (rS (by rw[←HST.out];simp[cB,hv,qe]));have qb:(l0==aU E Ss k++[sort])=false:=by simpa using qe
            rw[qb] at HEQ;clear HST hv qe qb
            go_wp2_with (at_lookup;go_loud (refine bD rfl 9 23 113 _ _ rfl Tryz.underlying9 Tryz.underlying113 (S+1+1) _ rfl hmk1 name rfl jf (.slice (some ⟨g0,0,none⟩) l0.length c00) HF.out ?_))
            refine HEQ.out.mono ?_;rintro e w5 ⟨rfl,q,rfl⟩;have HBE:=hid (HN3.out.bel.trans ((aO (ah _ _) q).mono HN3.out.le));clear c0 c1' c2' c3 c4 d0 d1 d2
            go_wp2
            go_ret
            exact ⟨by rw[HNF.out];rfl,by rw[HS.out];exact HBE.out⟩
      have g4:(op==4)=false:=by simp[q4]
      have g5:(op==5)=false:=by simp[q5]
      have HS2:Hid (cB E Ss (ts.drop (k+1)) (k+1) V F=cB E Ss ts 0 [] []):=hid (by
       rw[←HST.out];simp[cB,q4,q5])
      have HAL:=hid (HN.out.far (aD wr (.cells #[.int .i64 op,.int .i64 sort,.string name,.string num,.int .i64 kids] 34)))
      go_wp2
      go_roundw
      case rel=>exact ⟨k+1,V,F,by omega,by go_num,HS2.out,HAL.out⟩
      case measure=>simp[intOf];omega
  · have HI2:Hid (cB E Ss ts 0 [] []=some (V,F)):=hid (by
      rw[←HI.out,List.drop_of_length_le (by omega)];rfl)
    clear HI
    go_wp2
    go_loopw [80] (fun i wr=>∃k:Nat,k≤ts.length∧i=.int .i64 k∧(ts.take k).all (fun x=>!(x.op==5 && (bh x.name V).isSome))=true∧NM S w (some ⟨ge,0,none⟩) ts.length c1 (some ⟨gs,0,none⟩) ts.length c2 V F wr) (fun i _=>ts.length-(intOf i).toNat)
    case atStart=>exact ⟨0,aE _,rfl,rfl,HN.out⟩
    case round=>
     clear HN hlt hk;obtain ⟨k,hk,rfl,hT,hnm⟩:=hrel;have HN:=hid hnm;have HT:=hid hT;clear hnm hT
     by_cases hlt:k<ts.length
     · have hx:ts[k]? =some ts[k]:=aq hlt;have hia:NodesAt wr g ts:=HC.out.below HN.out.bel hg;have c0:=hia k _ hx 0 (by omega);have c1':=hia k _ hx 1 (by omega);have c2':=hia k _ hx 2 (by omega);have c3:=hia k _ hx 3 (by omega);have c4:=hia k _ hx 4 (by omega);simp only[Nd.cells,List.getElem?_cons_succ,List.getElem?_cons_zero,Nat.add_zero] at c0 c1' c2' c3 c4
       have HTK:Hid (∀b:Bool,(!(ts[k].op==5 && (bh ts[k].name V).isSome))=b→(ts.take (k+1)).all (fun x=>!(x.op==5 && (bh x.name V).isSome))=b):=hid (fun b hb=>by
        rw[List.take_add_one,hx,List.all_append,HT.out,←hb];simp)
       have hmem:=List.getElem_mem hlt
       have HFA:Hid ((!(ts[k].op==5 && (bh ts[k].name V).isSome))=false→naF ts E Ss=false):=hid (fun h=>by
        unfold naF;rw[HI2.out];exact Bool.eq_false_iff.2 fun hh=>by rw[List.all_eq_true.1 hh _ hmem] at h;cases h)
       clear hia hx HT hmem;generalize ts[k]=x at *;obtain ⟨op,sort,name,num,kids⟩:=x;simp only at c0 c1' c2' c3 c4;have HAL:=hid (HN.out.far (aD wr (.cells #[.int .i64 op,.int .i64 sort,.string name,.string num,.int .i64 kids] 34)))
       by_cases q5:op=5
       · subst q5;cases hv:bh name V with
         | none=>
           have HF:=hid (eZ 0 hv);have HT2:=hid (HTK.out true (by simp[hv]));clear HTK HFA hv
           go_wp2_with (at_lookup;go_loud (refine bO rfl 9 3 112 _ _ rfl Tryz.underlying9 Tryz.underlying112 (S+1) _ rfl HAL.out.mv name rfl _ HF.out (jP _) ?_))
           go_roundw
           case rel=>exact ⟨k+1,by omega,by go_num,HT2.out,HAL.out⟩
           case measure=>simp[intOf];omega
         | some v0=>
           obtain ⟨jf,hjf⟩:=d8 0 hv;have HF:=hid hjf;have HNF:=hid (HFA.out (by simp[hv]));clear HTK HFA hv hjf
           go_wp2_with (at_lookup;go_loud (refine bD rfl 9 3 112 _ _ rfl Tryz.underlying9 Tryz.underlying112 (S+1) _ rfl HAL.out.mv name rfl jf (.int .i64 v0) HF.out ?_))
           go_ret
           exact ⟨by rw[HNF.out];rfl,by rw[HS.out];exact HAL.out.bel⟩
       · have g5:(op==5)=false:=by simp[q5]
         have HT2:=hid (HTK.out true (by simp[q5]));clear HTK HFA
         go_wp2
         go_roundw
         case rel=>exact ⟨k+1,by omega,by go_num,HT2.out,HAL.out⟩
         case measure=>simp[intOf];omega
     · have HNT:Hid (naF ts E Ss=true):=hid (by
         unfold naF;rw[HI2.out];have:=HT.out;rwa [aJ (by omega)] at this)
       clear HT HI2
       go_wp2
       go_ret
       exact ⟨by rw[HNT.out];rfl,by rw[HS.out];exact HN.out.bel⟩
end
end Go.Proofs.YtapdbeaoakcjeaaGreatDoor.Se

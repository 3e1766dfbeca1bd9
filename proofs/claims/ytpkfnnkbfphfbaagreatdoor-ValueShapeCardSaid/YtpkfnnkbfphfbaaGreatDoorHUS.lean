import Derived.Test.YtpkfnnkbfphfbaaGreatDoorHUR
set_option maxRecDepth 100000
set_option maxHeartbeats 40000000
open Go.Lib (hid)
namespace Go.Proofs.YtpkfnnkbfphfbaaGreatDoor.Se
open Go.RowKit Nmx Go.Proofs.Tryz
theorem aO (w:World) (o:Obj):Below w.heap.size w (w.alloc o):=(am _ _).alloc (aj _) _
structure NM (S:Nat) (w:World) (a1:Option Addr) (n1 c1:Nat) (a2:Option Addr) (n2 c2:Nat) (V:List (ByteArray×Int)) (F:List (ByteArray×List Int)) (W:World):Prop where
 bx:W.heap[S]? =some (.cells #[.slice a1 n1 c1,.slice a2 n2 c2] 113 (0,0))
 mv:MapS W (S+1) (asI V)
 mf:∃kvs,MapS W (S+1+1) kvs∧FRel W kvs F
 bel:Below S w W
 le:S≤W.heap.size
theorem NM.far {S:Nat} {w W W':World} {a1 a2:Option Addr} {n1 c1 n2 c2:Nat} {V:List (ByteArray×Int)} {F:List (ByteArray×List Int)} (h:NM S w a1 n1 c1 a2 n2 c2 V F W) (hb:Below W.heap.size W W'):NM S w a1 n1 c1 a2 n2 c2 V F W':=
 ⟨(hb.block _ (ar h.bx)).trans h.bx,h.mv.far hb,let ⟨k,h1,h2⟩:=h.mf;⟨k,h1.far hb,h2.mono fun _ _ h=>h.far hb⟩,h.bel.trans (hb.mono h.le),aP h.le hb.size⟩
theorem NM.putV {S:Nat} {w W W':World} {a1 a2:Option Addr} {n1 c1 n2 c2:Nat} {V:List (ByteArray×Int)} {F:List (ByteArray×List Int)} {s:ByteArray} {v:Int} (h:NM S w a1 n1 c1 a2 n2 c2 V F W) (hm:MapS W' (S+1) (nH s (.int .i64 v) (asI V))) (hg:W.grownBy W' (some (S+1))):NM S w a1 n1 c1 a2 n2 c2 (mX s v V) F W':=by
 refine ⟨(hg.block _ (ar h.bx) (fun e=>by have:=aI e;omega)).trans h.bx,by rw[BW] at hm;exact hm,?_,h.bel.grown hg h.le (fun k e=>by cases e;omega),aP h.le hg.size⟩;obtain ⟨k,h1,h2⟩:=h.mf;exact ⟨k,h1.but (hg.block _ h1.lt (fun e=>by have:=aI e;omega)),h2.mono fun _ _ hr=>hr.grown h.mv hg⟩
theorem u6 (w:World):(zeroValue 3).run prog w=.ok (.int .i64 0) w:=by kernel_rfl
theorem A2 {ts:List Nd} {E:List Nat} {S:List Int} (h:fK E S ts 0 [] []=none):naF ts E S=false:=by unfold naF;rw[h]
theorem kp {P:Program} (t:TypeId) (w:World):(Instr.makeMap t none).run P w=.ok (.map (some w.heap.size)) (w.alloc (.map #[] 0)):=by
 simp[Instr.makeMap,Result.andThen]
theorem lI (ao a1 a2:Option Addr) (g cap n1 c1 n2 c2:Nat) (ts:List Nd) (E:List Nat) (Ss:List Int) (w:World) (hao:ts.length≠0→ao=some ⟨g,0,none⟩) (hg:g<w.heap.size) (hc:NodesAt w g ts) (hl:ts.length≤20000) (hno:∀x∈ts,¬x.op=5):
    Calls prog 114 #[.slice ao ts.length cap,.agg #[.slice a1 n1 c1,.slice a2 n2 c2]] w fun e w'=>e=.returned (.bool (naF ts E Ss))∧Below w.heap.size w w':=by
 have hm1:=@kp prog 178;have hm2:=@kp prog 179;have HC:=hid hc;have HA:=hid hao;have HNO:=hid hno
 have hnm:NM w.heap.size w a1 n1 c1 a2 n2 c2 [] [] (((w.alloc (.cells #[.slice a1 n1 c1,.slice a2 n2 c2] 113)).alloc (.map #[] 0)).alloc (.map #[] 0)):=by
  have h1:=aO w (.cells #[.slice a1 n1 c1,.slice a2 n2 c2] 113);have b0:=aq w (.cells #[.slice a1 n1 c1,.slice a2 n2 c2] 113);have e1:(w.alloc (.cells #[.slice a1 n1 c1,.slice a2 n2 c2] 113)).heap.size=w.heap.size+1:=by simp
  generalize w.alloc (.cells #[.slice a1 n1 c1,.slice a2 n2 c2] 113)=u1 at *;have h2:=aO u1 (.map #[] 0);have b1:=MapS.made u1;have e2:(u1.alloc (.map #[] 0)).heap.size=w.heap.size+1+1:=by simp;omega
  generalize u1.alloc (.map #[] 0)=u2 at *;have h3:=aO u2 (.map #[] 0);have b2:=MapS.made u2;rw[e1] at b1;rw[e2] at b2;exact ⟨(h3.block _ (by omega)).trans ((h2.block _ (by omega)).trans b0),b1.far h3,⟨[],b2,trivial⟩,h1.trans ((h2.mono (by omega)).trans (h3.mono (by omega))),aP (by omega) h3.size⟩
 have HNM:=hid hnm;clear hc hao hno hnm
 go_enter func114,ntmps114
 go_wp2
 generalize ((w.alloc (.cells #[.slice a1 n1 c1,.slice a2 n2 c2] 113)).alloc (.map #[] 0)).alloc (.map #[] 0)=w1 at *;generalize hS:w.heap.size=S at *;have HS:=hid hS;clear hS hm1 hm2
 go_loopw [22] (fun i wr=>∃(k:Nat) (V:List (ByteArray×Int)) (F:List (ByteArray×List Int)),k≤ts.length∧i=.int .i64 k∧fK E Ss (ts.drop k) k V F=fK E Ss ts 0 [] []∧NM S w a1 n1 c1 a2 n2 c2 V F wr) (fun i _=>ts.length-(intOf i).toNat)
 case atStart=>exact ⟨0,[],[],aM _,rfl,rfl,HNM.out⟩
 case round=>
  obtain ⟨k,V,F,hk,rfl,hI,hnm⟩:=hrel;have HN:=hid hnm;have HI:=hid hI;clear hI hnm HNM
  by_cases hlt:k<ts.length
  · obtain rfl:=HA.out (by omega);have hx:ts[k]? =some ts[k]:=ay hlt;have hia:NodesAt wr g ts:=HC.out.below HN.out.bel hg;have c0:=hia k _ hx 0 (by omega);have c1':=hia k _ hx 1 (by omega);have c2':=hia k _ hx 2 (by omega);have c3:=hia k _ hx 3 (by omega);have c4:=hia k _ hx 4 (by omega);simp only[Nd.cells,List.getElem?_cons_succ,List.getElem?_cons_zero,Nat.add_zero] at c0 c1' c2' c3 c4;have q5:=HNO.out _ (List.getElem_mem hlt);have HST:Hid (fK E Ss (ts[k]::ts.drop (k+1)) k V F=fK E Ss ts 0 [] []):=hid (by rw[←List.drop_eq_getElem_cons hlt];exact HI.out);clear hia hx HI;generalize ts[k]=x at *;obtain ⟨op,sort,name,num,kids⟩:=x;simp only at c0 c1' c2' c3 c4 q5
    by_cases q4:op=4
    · subst q4;have HAL:=hid (HN.out.far (aO wr (.cells #[.int .i64 4,.int .i64 sort,.string name,.string num,.int .i64 kids] 57)));cases hv:cp name V with
      | none=>
        have HF:=hid (mY 0 hv)
        have HS2:Hid (fK E Ss (ts.drop (k+1)) (k+1) (mX name sort V) F=fK E Ss ts 0 [] []):=hid (by
         rw[←HST.out];simp[fK,hv])
        clear HST hv
        go_wp2_with (first | (at_lookup;go_loud (refine gE rfl 9 3 178 _ _ rfl underlying9 underlying178 (S+1) _ rfl HAL.out.mv name rfl _ HF.out (u6 _) ?_)) | (at_mapUpdate;go_loud (refine iS rfl 9 3 178 _ _ _ rfl underlying9 underlying178 (S+1) _ rfl HAL.out.mv name rfl (.int .i64 sort) rfl ?_)))
        intro w2 hm hgr;have HN2:=hid (HAL.out.putV hm hgr);clear hm hgr c0 c1' c2' c3 c4
        go_wp2_with fail
        go_roundw
        case rel=>exact ⟨k+1,_,F,by omega,by go_num,HS2.out,HN2.out⟩
        case measure=>simp[intOf];omega
      | some v0=>
        obtain ⟨jf,hjf⟩:=mZ 0 hv;have HF:=hid hjf;clear hjf
        by_cases qs:v0=sort
        · subst qs
          have HS2:Hid (fK E Ss (ts.drop (k+1)) (k+1) (mX name v0 V) F=fK E Ss ts 0 [] []):=hid (by
           rw[←HST.out];simp[fK,hv])
          clear HST hv
          go_wp2_with (first | (at_lookup;go_loud (refine eU rfl 9 3 178 _ _ rfl underlying9 underlying178 (S+1) _ rfl HAL.out.mv name rfl jf (.int .i64 v0) HF.out ?_)) | (at_mapUpdate;go_loud (refine iS rfl 9 3 178 _ _ _ rfl underlying9 underlying178 (S+1) _ rfl HAL.out.mv name rfl (.int .i64 v0) rfl ?_)))
          intro w2 hm hgr;have HN2:=hid (HAL.out.putV hm hgr);clear hm hgr c0 c1' c2' c3 c4
          go_wp2_with fail
          go_roundw
          case rel=>exact ⟨k+1,_,F,by omega,by go_num,HS2.out,HN2.out⟩
          case measure=>simp[intOf];omega
        · have HNF:Hid (naF ts E Ss=false):=hid (A2 (by
            rw[←HST.out];simp[fK,hv,qs]))
          have qs':(v0==sort)=false:=by simp[qs]
          clear HST hv
          go_wp2_with (at_lookup;go_loud (refine eU rfl 9 3 178 _ _ rfl underlying9 underlying178 (S+1) _ rfl HAL.out.mv name rfl jf (.int .i64 v0) HF.out ?_))
          go_ret
          exact ⟨by rw[HNF.out];rfl,by rw[HS.out];exact HAL.out.bel⟩
    · have g4:(op==4)=false:=by simp[q4]
      have g5:(op==5)=false:=by simp[q5]
      have HS2:Hid (fK E Ss (ts.drop (k+1)) (k+1) V F=fK E Ss ts 0 [] []):=hid (by
       rw[←HST.out];simp[fK,q4,q5])
      have HAL:=hid (HN.out.far (aO wr (.cells #[.int .i64 op,.int .i64 sort,.string name,.string num,.int .i64 kids] 57)))
      go_wp2
      go_roundw
      case rel=>exact ⟨k+1,V,F,by omega,by go_num,HS2.out,HAL.out⟩
      case measure=>simp[intOf];omega
  · have HI2:Hid (fK E Ss ts 0 [] []=some (V,F)):=hid (by
      rw[←HI.out,List.drop_of_length_le (by omega)];rfl)
    clear HI
    go_wp2
    go_loopw [80] (fun i wr=>∃k:Nat,k≤ts.length∧i=.int .i64 k∧(ts.take k).all (fun x=>!(x.op==5 && (cp x.name V).isSome))=true∧NM S w a1 n1 c1 a2 n2 c2 V F wr) (fun i _=>ts.length-(intOf i).toNat)
    case atStart=>exact ⟨0,aM _,rfl,rfl,HN.out⟩
    case round=>
     clear HN hlt hk;obtain ⟨k,hk,rfl,hT,hnm⟩:=hrel;have HN:=hid hnm;have HT:=hid hT;clear hnm hT
     by_cases hlt:k<ts.length
     · obtain rfl:=HA.out (by omega);have hx:ts[k]? =some ts[k]:=ay hlt;have hia:NodesAt wr g ts:=HC.out.below HN.out.bel hg;have c0:=hia k _ hx 0 (by omega);have c1':=hia k _ hx 1 (by omega);have c2':=hia k _ hx 2 (by omega);have c3:=hia k _ hx 3 (by omega);have c4:=hia k _ hx 4 (by omega);simp only[Nd.cells,List.getElem?_cons_succ,List.getElem?_cons_zero,Nat.add_zero] at c0 c1' c2' c3 c4
       have HTK:Hid (∀b:Bool,(!(ts[k].op==5 && (cp ts[k].name V).isSome))=b→(ts.take (k+1)).all (fun x=>!(x.op==5 && (cp x.name V).isSome))=b):=hid (fun b hb=>by
        rw[List.take_add_one,hx,List.all_append,HT.out,←hb];simp)
       have hmem:=List.getElem_mem hlt
       have HFA:Hid ((!(ts[k].op==5 && (cp ts[k].name V).isSome))=false→naF ts E Ss=false):=hid (fun h=>by
        unfold naF;rw[HI2.out];exact Bool.eq_false_iff.2 fun hh=>by rw[List.all_eq_true.1 hh _ hmem] at h;cases h)
       clear hia hx HT hmem;generalize ts[k]=x at *;obtain ⟨op,sort,name,num,kids⟩:=x;simp only at c0 c1' c2' c3 c4;have HAL:=hid (HN.out.far (aO wr (.cells #[.int .i64 op,.int .i64 sort,.string name,.string num,.int .i64 kids] 57)))
       by_cases q5:op=5
       · subst q5;cases hv:cp name V with
         | none=>
           have HF:=hid (mY 0 hv);have HT2:=hid (HTK.out true (by simp[hv]));clear HTK HFA hv
           go_wp2_with (at_lookup;go_loud (refine gE rfl 9 3 178 _ _ rfl underlying9 underlying178 (S+1) _ rfl HAL.out.mv name rfl _ HF.out (u6 _) ?_))
           go_roundw
           case rel=>exact ⟨k+1,by omega,by go_num,HT2.out,HAL.out⟩
           case measure=>simp[intOf];omega
         | some v0=>
           obtain ⟨jf,hjf⟩:=mZ 0 hv;have HF:=hid hjf;have HNF:=hid (HFA.out (by simp[hv]));clear HTK HFA hv hjf
           go_wp2_with (at_lookup;go_loud (refine eU rfl 9 3 178 _ _ rfl underlying9 underlying178 (S+1) _ rfl HAL.out.mv name rfl jf (.int .i64 v0) HF.out ?_))
           go_ret
           exact ⟨by rw[HNF.out];rfl,by rw[HS.out];exact HAL.out.bel⟩
       · have g5:(op==5)=false:=by simp[q5]
         have HT2:=hid (HTK.out true (by simp[q5]));clear HTK HFA
         go_wp2
         go_roundw
         case rel=>exact ⟨k+1,by omega,by go_num,HT2.out,HAL.out⟩
         case measure=>simp[intOf];omega
     · have HNT:Hid (naF ts E Ss=true):=hid (by
         unfold naF;rw[HI2.out];have:=HT.out;rwa [aT (by omega)] at this)
       clear HT HI2
       go_wp2
       go_ret
       exact ⟨by rw[HNT.out];rfl,by rw[HS.out];exact HN.out.bel⟩
end Go.Proofs.YtpkfnnkbfphfbaaGreatDoor.Se

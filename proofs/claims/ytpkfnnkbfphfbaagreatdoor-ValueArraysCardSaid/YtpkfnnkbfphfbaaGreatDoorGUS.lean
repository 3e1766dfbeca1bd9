/- namesAgree. -/
import Derived.Test.YtpkfnnkbfphfbaaGreatDoorGUR
set_option maxRecDepth 100000
set_option maxHeartbeats 40000000
namespace Go.Proofs.YtpkfnnkbfphfbaaGreatDoor.Se
open Go.RowKit Nmx

theorem alloc_far' (w:World) (o:Obj):Below w.heap.size w (w.alloc o):=(Below.refl _ _).alloc (Nat.le_refl _) _
structure NM (S:Nat) (w:World) (a1:Option Addr) (n1 c1:Nat) (a2:Option Addr) (n2 c2:Nat) (V:List (ByteArray×Int)) (F:List (ByteArray×List Int)) (W:World):Prop where
  bx:W.heap[S]? =some (.cells #[.slice a1 n1 c1,.slice a2 n2 c2] 113 (0,0))
  mv:MapS W (S+1) (asI V)
  mf:∃kvs,MapS W (S+1+1) kvs∧FRel W kvs F
  bel:Below S w W
  le:S≤W.heap.size
theorem NM.far {S:Nat} {w W W':World} {a1 a2:Option Addr} {n1 c1 n2 c2:Nat} {V:List (ByteArray×Int)} {F:List (ByteArray×List Int)} (h:NM S w a1 n1 c1 a2 n2 c2 V F W) (hb:Below W.heap.size W W'):NM S w a1 n1 c1 a2 n2 c2 V F W':=
  ⟨(hb.block _ (lt_of_heap h.bx)).trans h.bx,h.mv.far hb,let ⟨k,h1,h2⟩:=h.mf;⟨k,h1.far hb,h2.mono fun _ _ h=>h.far hb⟩,h.bel.trans (hb.mono h.le),Nat.le_trans h.le hb.size⟩
theorem NM.putV {S:Nat} {w W W':World} {a1 a2:Option Addr} {n1 c1 n2 c2:Nat} {V:List (ByteArray×Int)} {F:List (ByteArray×List Int)} {s:ByteArray} {v:Int} (h:NM S w a1 n1 c1 a2 n2 c2 V F W) (hm:MapS W' (S+1) (putS s (.int .i64 v) (asI V))) (hg:W.grownBy W' (some (S+1))):NM S w a1 n1 c1 a2 n2 c2 (putA s v V) F W':=by
  refine ⟨(hg.block _ (lt_of_heap h.bx) (fun e=>by have:=Option.some.inj e;omega)).trans h.bx,by rw[putI] at hm;exact hm,?_,h.bel.grown hg h.le (fun k e=>by cases e;omega),Nat.le_trans h.le hg.size⟩
  obtain ⟨k,h1,h2⟩:=h.mf
  exact ⟨k,h1.but (hg.block _ h1.lt (fun e=>by have:=Option.some.inj e;omega)),h2.mono fun _ _ hr=>hr.grown h.mv hg⟩
theorem zeroInt (w:World):(zeroValue 3).run Tryz.prog w=.ok (.int .i64 0) w:=by kernel_rfl
theorem nag_no {ts:List Nd} {E:List Nat} {S:List Int} (h:nagF E S ts 0 [] []=none):naF ts E S=false:=by unfold naF;rw[h]
theorem run_makeMap0 {P:Program} (t:TypeId) (w:World):(Instr.makeMap t none).run P w=.ok (.map (some w.heap.size)) (w.alloc (.map #[] 0)):=by
  simp[Instr.makeMap,Result.andThen]
section
theorem namesAgree_vars (ao a1 a2:Option Addr) (g cap n1 c1 n2 c2:Nat) (ts:List Nd) (E:List Nat) (Ss:List Int) (w:World) (hao:ts.length≠0→ao=some ⟨g,0,none⟩) (hg:g<w.heap.size) (hc:NodesAt w g ts) (hl:ts.length≤20000) (hno:∀x∈ts,¬x.op=5):
    Calls Tryz.prog 114 #[.slice ao ts.length cap,.agg #[.slice a1 n1 c1,.slice a2 n2 c2]] w fun e w'=>e=.returned (.bool (naF ts E Ss))∧Below w.heap.size w w':=by
  have hm1:=@run_makeMap0 Tryz.prog 178
  have hm2:=@run_makeMap0 Tryz.prog 179
  have HC:=Lib.hid hc
  have HA:=Lib.hid hao
  have HNO:=Lib.hid hno
  have hnm:NM w.heap.size w a1 n1 c1 a2 n2 c2 [] [] (((w.alloc (.cells #[.slice a1 n1 c1,.slice a2 n2 c2] 113)).alloc (.map #[] 0)).alloc (.map #[] 0)):=by
    have h1:=alloc_far' w (.cells #[.slice a1 n1 c1,.slice a2 n2 c2] 113)
    have b0:=heap_alloc_new w (.cells #[.slice a1 n1 c1,.slice a2 n2 c2] 113)
    have e1:(w.alloc (.cells #[.slice a1 n1 c1,.slice a2 n2 c2] 113)).heap.size=w.heap.size+1:=by simp
    generalize w.alloc (.cells #[.slice a1 n1 c1,.slice a2 n2 c2] 113)=u1 at *
    have h2:=alloc_far' u1 (.map #[] 0)
    have b1:=MapS.made u1
    have e2:(u1.alloc (.map #[] 0)).heap.size=w.heap.size+1+1:=by simp;omega
    generalize u1.alloc (.map #[] 0)=u2 at *
    have h3:=alloc_far' u2 (.map #[] 0)
    have b2:=MapS.made u2
    rw[e1] at b1
    rw[e2] at b2
    exact ⟨(h3.block _ (by omega)).trans ((h2.block _ (by omega)).trans b0),b1.far h3,⟨[],b2,trivial⟩,h1.trans ((h2.mono (by omega)).trans (h3.mono (by omega))),Nat.le_trans (by omega) h3.size⟩
  have HNM:=Lib.hid hnm
  clear hc hao hno hnm
  go_enter Tryz.func114,Tryz.ntmps114
  go_wp2
  generalize ((w.alloc (.cells #[.slice a1 n1 c1,.slice a2 n2 c2] 113)).alloc (.map #[] 0)).alloc (.map #[] 0)=w1 at *
  generalize hS:w.heap.size=S at *
  have HS:=Lib.hid hS
  clear hS hm1 hm2
  go_loopw [22] (fun i wr=>∃(k:Nat) (V:List (ByteArray×Int)) (F:List (ByteArray×List Int)),k≤ts.length∧i=.int .i64 k∧nagF E Ss (ts.drop k) k V F=nagF E Ss ts 0 [] []∧NM S w a1 n1 c1 a2 n2 c2 V F wr) (fun i _=>ts.length-(intOf i).toNat)
  case atStart=>exact ⟨0,[],[],Nat.zero_le _,rfl,rfl,HNM.out⟩
  case round=>
    obtain ⟨k,V,F,hk,rfl,hI,hnm⟩:=hrel
    have HN:=Lib.hid hnm
    have HI:=Lib.hid hI
    clear hI hnm HNM
    by_cases hlt:k<ts.length
    · obtain rfl:=HA.out (by omega)
      have hx:ts[k]? =some ts[k]:=List.getElem?_eq_getElem hlt
      have hia:NodesAt wr g ts:=HC.out.below HN.out.bel hg
      have c0:=hia k _ hx 0 (by omega)
      have c1':=hia k _ hx 1 (by omega)
      have c2':=hia k _ hx 2 (by omega)
      have c3:=hia k _ hx 3 (by omega)
      have c4:=hia k _ hx 4 (by omega)
      simp only[Nd.cells,List.getElem?_cons_succ,List.getElem?_cons_zero,Nat.add_zero] at c0 c1' c2' c3 c4
      have q5:=HNO.out _ (List.getElem_mem hlt)
      have HST:Hid (nagF E Ss (ts[k]::ts.drop (k+1)) k V F=nagF E Ss ts 0 [] []):=Lib.hid (by rw[←List.drop_eq_getElem_cons hlt];exact HI.out)
      clear hia hx HI
      generalize ts[k]=x at *
      obtain ⟨op,sort,name,num,kids⟩:=x
      simp only at c0 c1' c2' c3 c4 q5
      by_cases q4:op=4
      · subst q4
        have HAL:=Lib.hid (HN.out.far (alloc_far' wr (.cells #[.int .i64 4,.int .i64 sort,.string name,.string num,.int .i64 kids] 57)))
        cases hv:lookA name V with
        | none=>
          have HF:=Lib.hid (findI_none 0 hv)
          have HS2:Hid (nagF E Ss (ts.drop (k+1)) (k+1) (putA name sort V) F=nagF E Ss ts 0 [] []):=Lib.hid (by
            rw[←HST.out];simp[nagF,hv])
          clear HST hv
          go_wp2_with (first | (at_lookup;go_loud (refine wpList_look_miss rfl 9 3 178 _ _ rfl Tryz.underlying9 Tryz.underlying178 (S+1) _ rfl HAL.out.mv name rfl _ HF.out (zeroInt _) ?_)) | (at_mapUpdate;go_loud (refine wpList_put_any rfl 9 3 178 _ _ _ rfl Tryz.underlying9 Tryz.underlying178 (S+1) _ rfl HAL.out.mv name rfl (.int .i64 sort) rfl ?_)))
          intro w2 hm hgr
          have HN2:=Lib.hid (HAL.out.putV hm hgr)
          clear hm hgr c0 c1' c2' c3 c4
          go_wp2_with fail
          go_roundw
          case rel=>exact ⟨k+1,_,F,by omega,by go_num,HS2.out,HN2.out⟩
          case measure=>simp[intOf];omega
        | some v0=>
          obtain ⟨jf,hjf⟩:=findI_some 0 hv
          have HF:=Lib.hid hjf
          clear hjf
          by_cases qs:v0=sort
          · subst qs
            have HS2:Hid (nagF E Ss (ts.drop (k+1)) (k+1) (putA name v0 V) F=nagF E Ss ts 0 [] []):=Lib.hid (by
              rw[←HST.out];simp[nagF,hv])
            clear HST hv
            go_wp2_with (first | (at_lookup;go_loud (refine wpList_look_hit rfl 9 3 178 _ _ rfl Tryz.underlying9 Tryz.underlying178 (S+1) _ rfl HAL.out.mv name rfl jf (.int .i64 v0) HF.out ?_)) | (at_mapUpdate;go_loud (refine wpList_put_any rfl 9 3 178 _ _ _ rfl Tryz.underlying9 Tryz.underlying178 (S+1) _ rfl HAL.out.mv name rfl (.int .i64 v0) rfl ?_)))
            intro w2 hm hgr
            have HN2:=Lib.hid (HAL.out.putV hm hgr)
            clear hm hgr c0 c1' c2' c3 c4
            go_wp2_with fail
            go_roundw
            case rel=>exact ⟨k+1,_,F,by omega,by go_num,HS2.out,HN2.out⟩
            case measure=>simp[intOf];omega
          · have HNF:Hid (naF ts E Ss=false):=Lib.hid (nag_no (by
              rw[←HST.out];simp[nagF,hv,qs]))
            have qs':(v0==sort)=false:=by simp[qs]
            clear HST hv
            go_wp2_with (at_lookup;go_loud (refine wpList_look_hit rfl 9 3 178 _ _ rfl Tryz.underlying9 Tryz.underlying178 (S+1) _ rfl HAL.out.mv name rfl jf (.int .i64 v0) HF.out ?_))
            go_ret
            exact ⟨by rw[HNF.out];rfl,by rw[HS.out];exact HAL.out.bel⟩
      · have g4:(op==4)=false:=by simp[q4]
        have g5:(op==5)=false:=by simp[q5]
        have HS2:Hid (nagF E Ss (ts.drop (k+1)) (k+1) V F=nagF E Ss ts 0 [] []):=Lib.hid (by
          rw[←HST.out];simp[nagF,q4,q5])
        have HAL:=Lib.hid (HN.out.far (alloc_far' wr (.cells #[.int .i64 op,.int .i64 sort,.string name,.string num,.int .i64 kids] 57)))
        go_wp2
        go_roundw
        case rel=>exact ⟨k+1,V,F,by omega,by go_num,HS2.out,HAL.out⟩
        case measure=>simp[intOf];omega
    · have HI2:Hid (nagF E Ss ts 0 [] []=some (V,F)):=Lib.hid (by
        rw[←HI.out,List.drop_of_length_le (by omega)];rfl)
      clear HI
      go_wp2
      go_loopw [80] (fun i wr=>∃k:Nat,k≤ts.length∧i=.int .i64 k∧(ts.take k).all (fun x=>!(x.op==5 && (lookA x.name V).isSome))=true∧NM S w a1 n1 c1 a2 n2 c2 V F wr) (fun i _=>ts.length-(intOf i).toNat)
      case atStart=>exact ⟨0,Nat.zero_le _,rfl,rfl,HN.out⟩
      case round=>
        clear HN hlt hk
        obtain ⟨k,hk,rfl,hT,hnm⟩:=hrel
        have HN:=Lib.hid hnm
        have HT:=Lib.hid hT
        clear hnm hT
        by_cases hlt:k<ts.length
        · obtain rfl:=HA.out (by omega)
          have hx:ts[k]? =some ts[k]:=List.getElem?_eq_getElem hlt
          have hia:NodesAt wr g ts:=HC.out.below HN.out.bel hg
          have c0:=hia k _ hx 0 (by omega)
          have c1':=hia k _ hx 1 (by omega)
          have c2':=hia k _ hx 2 (by omega)
          have c3:=hia k _ hx 3 (by omega)
          have c4:=hia k _ hx 4 (by omega)
          simp only[Nd.cells,List.getElem?_cons_succ,List.getElem?_cons_zero,Nat.add_zero] at c0 c1' c2' c3 c4
          have HTK:Hid (∀b:Bool,(!(ts[k].op==5 && (lookA ts[k].name V).isSome))=b→(ts.take (k+1)).all (fun x=>!(x.op==5 && (lookA x.name V).isSome))=b):=Lib.hid (fun b hb=>by
            rw[List.take_add_one,hx,List.all_append,HT.out,←hb];simp)
          have hmem:=List.getElem_mem hlt
          have HFA:Hid ((!(ts[k].op==5 && (lookA ts[k].name V).isSome))=false→naF ts E Ss=false):=Lib.hid (fun h=>by
            unfold naF;rw[HI2.out];exact Bool.eq_false_iff.2 fun hh=>by rw[List.all_eq_true.1 hh _ hmem] at h;cases h)
          clear hia hx HT hmem
          generalize ts[k]=x at *
          obtain ⟨op,sort,name,num,kids⟩:=x
          simp only at c0 c1' c2' c3 c4
          have HAL:=Lib.hid (HN.out.far (alloc_far' wr (.cells #[.int .i64 op,.int .i64 sort,.string name,.string num,.int .i64 kids] 57)))
          by_cases q5:op=5
          · subst q5
            cases hv:lookA name V with
            | none=>
              have HF:=Lib.hid (findI_none 0 hv)
              have HT2:=Lib.hid (HTK.out true (by simp[hv]))
              clear HTK HFA hv
              go_wp2_with (at_lookup;go_loud (refine wpList_look_miss rfl 9 3 178 _ _ rfl Tryz.underlying9 Tryz.underlying178 (S+1) _ rfl HAL.out.mv name rfl _ HF.out (zeroInt _) ?_))
              go_roundw
              case rel=>exact ⟨k+1,by omega,by go_num,HT2.out,HAL.out⟩
              case measure=>simp[intOf];omega
            | some v0=>
              obtain ⟨jf,hjf⟩:=findI_some 0 hv
              have HF:=Lib.hid hjf
              have HNF:=Lib.hid (HFA.out (by simp[hv]))
              clear HTK HFA hv hjf
              go_wp2_with (at_lookup;go_loud (refine wpList_look_hit rfl 9 3 178 _ _ rfl Tryz.underlying9 Tryz.underlying178 (S+1) _ rfl HAL.out.mv name rfl jf (.int .i64 v0) HF.out ?_))
              go_ret
              exact ⟨by rw[HNF.out];rfl,by rw[HS.out];exact HAL.out.bel⟩
          · have g5:(op==5)=false:=by simp[q5]
            have HT2:=Lib.hid (HTK.out true (by simp[q5]))
            clear HTK HFA
            go_wp2
            go_roundw
            case rel=>exact ⟨k+1,by omega,by go_num,HT2.out,HAL.out⟩
            case measure=>simp[intOf];omega
        · have HNT:Hid (naF ts E Ss=true):=Lib.hid (by
            unfold naF;rw[HI2.out];have:=HT.out;rwa [List.take_of_length_le (by omega)] at this)
          clear HT HI2
          go_wp2
          go_ret
          exact ⟨by rw[HNT.out];rfl,by rw[HS.out];exact HN.out.bel⟩
end
end Go.Proofs.YtpkfnnkbfphfbaaGreatDoor.Se

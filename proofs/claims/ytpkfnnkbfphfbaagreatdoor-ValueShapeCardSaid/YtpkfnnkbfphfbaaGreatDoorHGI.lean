import Derived.Test.YtpkfnnkbfphfbaaGreatDoorHEU
import Derived.Test.YtpkfnnkbfphfbaaGreatDoorHGD
import Derived.Test.YtpkfnnkbfphfbaaGreatDoorHGE
set_option maxRecDepth 100000
set_option maxHeartbeats 40000000
namespace Go.Proofs.YtpkfnnkbfphfbaaGreatDoor.Se
open Go.RowKit Nmx Go.Proofs.Tryz
theorem RRow.len {w:World} {u:Value} {ts:List ByteArray} (h:RRow w u ts):∃a c,u=.slice a ts.length c:=let ⟨a,c,e,_⟩:=h.sl;⟨a,c,e⟩
theorem mb (a b:ByteArray):(a.toList==b.toList)=decide (a=b):=by
 by_cases h:a=b
 · subst h;simp
 · rw[aD h];refine beq_false_of_ne fun e=>h ?_
   have e1:=eR (s:=a) (x:=a.toList) rfl;have e2:=eR (s:=b) (x:=b.toList) rfl;rw[e] at e1;exact e1.trans e2.symm
theorem jM {k k':Value} {ts ts':List ByteArray} (w:World) (h:RRow w k ts) (h':RRow w k' ts') (hl:ts.length≤100000):
    Calls prog 31 #[k,k'] w fun e w'=>e=.returned (.bool (decide (ts=ts')))∧Below w.heap.size w w':=by
 by_cases hn:ts.length=ts'.length
 · obtain ⟨a,c,rfl⟩:=h.len;obtain ⟨a',c',rfl⟩:=h'.len;have HK:=Lib.hid h;have HK':=Lib.hid h';have HL:=Lib.hid hn;obtain ⟨n,hnn⟩:∃n,ts.length=n:=⟨_,rfl⟩
   have HN:=Lib.hid hnn;have hn':ts'.length=n:=hn.symm.trans hnn;have HN':=Lib.hid hn';rw[hnn,hn'];rw[hnn] at hl;clear hn hnn hn' h h'
   go_enter func31,ntmps31
   go_wp2_with fail
   go_loopg [5] n (fun gh v wr=>∃(i:Nat),gh=n-i∧i≤n∧v=.int .i64 i∧ts.take i=ts'.take i∧Below w.heap.size w wr)
   case atStart=>exact ⟨0,rfl,aM _,rfl,rfl,am _ _⟩
   case round=>
    obtain ⟨i,rfl,hi,rfl,ht,hb⟩:=hrel;have HB:=Lib.hid hb;have HT:=Lib.hid ht;clear hb ht;have hi0:(0:Int)≤(i:Int):=by omega
    by_cases hlt:i<n
    · have hlt':(i:Int)<(n:Int):=by omega
      have hl1:i<ts.length:=by rw[HN.out];exact hlt
      have hl2:i<ts'.length:=by rw[HN'.out];exact hlt
      obtain ⟨g,o,cc,e1,hk⟩:=(HK.out.far HB.out).cell (ay hl1);obtain ⟨g',o',cc',e2,hu⟩:=(HK'.out.far HB.out).cell (ay hl2);rw[HN.out] at e1;rw[HN'.out] at e2;injection e1 with e1 _ e1c;injection e2 with e2 _ e2c;subst e1 e2 e1c e2c;have hq:=mb ts[i] ts'[i]
      by_cases he:ts[i]=ts'[i]
      · rw[aH he] at hq;have HST:Hid (ts.take (i+1)=ts'.take (i+1)):=Lib.hid (by rw[List.take_add_one,List.take_add_one,HT.out,ay hl1,ay hl2,he]);generalize ts[i]=t1 at *;generalize ts'[i]=t2 at *;clear he hl1 hl2
        go_wp2_with fail
        go_quiet (fail)
        go_wp2_with fail
        go_roundg (n-(i+1))
        case rel=>exact ⟨i+1,rfl,by omega,by go_num,HST.out,aW HB.out _⟩
        case measure=>omega
      · rw[aD he] at hq;have HNE:Hid (¬ts=ts'):=Lib.hid (fun e=>he (by subst e;rfl));generalize ts[i]=t1 at *;generalize ts'[i]=t2 at *;clear he hl1 hl2
        go_wp2_with fail
        go_quiet (fail)
        go_wp2_with fail
        go_ret
        exact ⟨ret_bool (aD HNE.out).symm,aW HB.out _⟩
    · have hlt':¬((i:Int)<(n:Int)):=by omega
      have HEQ:Hid (ts=ts'):=Lib.hid (by
       have ht:=HT.out;rw[aT (by rw[HN.out];omega),aT (by rw[HN'.out];omega)] at ht
       exact ht)
      go_wp2
      go_ret
      exact ⟨ret_bool (aH HEQ.out).symm,HB.out⟩
 · obtain ⟨a,c,rfl⟩:=h.len;obtain ⟨a',c',rfl⟩:=h'.len;have HNE:Hid (¬ts=ts'):=Lib.hid (fun e=>hn (by rw[e]));have hni:¬(ts.length:Int)=(ts'.length:Int):=by omega
   generalize ts.length=n at *;generalize ts'.length=n' at *;clear hn h h'
   go_enter func31,ntmps31
   go_wp2
   go_ret
   exact ⟨ret_bool (aD HNE.out).symm,am _ _⟩
structure VR (w:World) (num:ByteArray) (ks us:List ByteArray) (k u:Value):Prop where
 kr:RRow w k ks
 ur:RRow w u us
 ln:ks.length≤1000
 lu:us.length≤1000
 sn:num.size≤1000
theorem VR.far {w w':World} {num:ByteArray} {ks us:List ByteArray} {k u:Value} (h:VR w num ks us k u) (hb:Below w.heap.size w w'):VR w' num ks us k u:=⟨h.kr.far hb,h.ur.far hb,h.ln,h.lu,h.sn⟩
structure VS (w:World) (num:ByteArray) (ks us:List ByteArray) (k u:Value):Prop where
 kr:RRow w k ks
 ur:RRow w u us
 ln:ks.length≤12
 lu:us.length≤12
 sn:OkT num
 sk:∀t∈ks,OkT t
 su:∀t∈us,OkT t
theorem VS.far {w w':World} {num:ByteArray} {ks us:List ByteArray} {k u:Value} (h:VS w num ks us k u) (hb:Below w.heap.size w w'):VS w' num ks us k u:=⟨h.kr.far hb,h.ur.far hb,h.ln,h.lu,h.sn,h.sk,h.su⟩
theorem VS.vr {w:World} {num:ByteArray} {ks us:List ByteArray} {k u:Value} (h:VS w num ks us k u):VR w num ks us k u:=⟨h.kr,h.ur,by have:=h.ln;omega,by have:=h.lu;omega,by have:=h.sn.1;omega⟩
theorem VS.arr {w:World} {num:ByteArray} {ks us:List ByteArray} {k u:Value} (h:VS w num ks us k u) (hv:vaF num ks us=true):∃d l,num=TI d∧l.length=ks.length∧AR w d l k u:=Bd hv h.kr h.ur h.sn h.sk h.su h.ln
theorem il {num:ByteArray} {ks us:List ByteArray} {k u:Value} (w:World) (hE:Env w) (h:VS w num ks us k u) (hn:iN num=false∨¬ks.length=us.length):
    Calls prog 34 #[bh 4 false num k u] w fun e w'=>e=.returned (.bool false)∧Below w.heap.size w w':=by
 obtain ⟨a,c,rfl⟩:=h.kr.len;obtain ⟨a',c',rfl⟩:=h.ur.len;have hid:=fun (W:World) (hW:Below w.heap.size w W)=>gY num W (by have:=h.sn.1;omega) (hE.far hW)
 unfold bh;have hX:eX w.heap.size num (.slice a ks.length c) (.slice a' us.length c') (w.alloc (.cells #[.int .i64 4,.bool false,.string num,.slice a ks.length c,.slice a' us.length c'] 24)):=aq w _;have HX:=Lib.hid hX;have HB:=Lib.hid (aO w (.cells #[.int .i64 4,.bool false,.string num,.slice a ks.length c,.slice a' us.length c'] 24))
 have hni:iN num=false∨(iN num=true∧¬(ks.length:Int)=(us.length:Int)):=by
  cases hq:iN num with
  | false=>exact .inl rfl
  | true=>
    refine .inr ⟨rfl,?_⟩;rcases hn with hn | hn
    · rw[hq] at hn;cases hn
    · omega
 generalize ks.length=n at *;generalize us.length=n' at *;generalize iN num=b at *;clear h hE hX hn;rcases hni with rfl | ⟨rfl,hne⟩
 · go_enter func34,ntmps34
   go_wp2_with fail
   refine (hid _ HB.out).mono ?_;rintro e w1 ⟨rfl,hb⟩;have HB1:=Lib.hid (HB.out.trans (hb.mono HB.out.size));clear hb hid HX
   go_wp2
   go_ret
   exact ⟨rfl,HB1.out⟩
 · go_enter func34,ntmps34
   go_wp2_with fail
   refine (hid _ HB.out).mono ?_;rintro e w1 ⟨rfl,hb⟩;have hX1:=(hb.block _ (ar HX.out)).trans HX.out;have HB1:=Lib.hid (HB.out.trans (hb.mono HB.out.size));have x3:=aa hX1 3;have x4:=aa hX1 4;clear hb hid HX hX1
   go_wp2
   go_ret
   exact ⟨rfl,HB1.out⟩
theorem mc {num:ByteArray} {ks us:List ByteArray} {k u:Value} (w:World) (hE:Env w) (h:VS w num ks us k u):
    Calls prog 34 #[bh 4 false num k u] w fun e w'=>e=.returned (.bool (vaF num ks us))∧Below w.heap.size w w':=by
 cases hv:vaF num ks us with
 | true=>
   obtain ⟨d,l,rfl,-,har⟩:=h.arr hv;exact jm w hE har
 | false=>
   cases hn:iN num with
   | false=>exact il w hE h (.inl hn)
   | true=>
     by_cases hl:ks.length=us.length
     · obtain ⟨i,h1,h2,h3⟩:=wQ hv hn hl;exact ma w hE h.kr h.ur h.sn h.sk h.su h.ln hn hl h1 h2 h3
     · exact il w hE h (.inr hl)
theorem sm {b:Bool} {num:ByteArray} {ks us:List ByteArray} {k u:Value} (w:World) (hE:Env w) (h:VS w num ks us k u):
    Calls prog 12 #[bh 4 b num k u] w fun e w'=>e=.returned (.bool (!b && vaF num ks us))∧Below w.heap.size w w':=by
 have hA:=aO w (.cells #[.int .i64 4,.bool b,.string num,k,u] 24);have HB:=Lib.hid hA;have hva:=mc (w.alloc (.cells #[.int .i64 4,.bool b,.string num,k,u] 24)) (hE.far hA) (h.far hA);obtain ⟨a,c,rfl⟩:=h.kr.len;obtain ⟨a',c',rfl⟩:=h.ur.len;unfold bh at hva ⊢;clear hA h hE;generalize vaF num ks us=q at *;generalize ks.length=n at *;generalize us.length=n' at *
 by_cases hn:n=0
 · subst hn;cases b with
   | true=>
     go_enter func12,ntmps12
     go_wp2
     go_ret
     exact ⟨rfl,HB.out⟩
   | false=>
     go_enter func12,ntmps12
     go_wp2_with fail
     refine hva.mono ?_;rintro e w1 ⟨rfl,hb⟩;have HB1:=Lib.hid (HB.out.trans (hb.mono HB.out.size));clear hb hva
     go_wp2
     go_ret
     exact ⟨rfl,HB1.out⟩
 · have h0:¬(n:Int)=0:=by omega
   have h0':decide ((n:Int)=0)=false:=aD h0;cases b with
   | true=>
     go_enter func12,ntmps12
     go_wp2
     go_ret
     exact ⟨rfl,HB.out⟩
   | false=>
     go_enter func12,ntmps12
     go_wp2_with fail
     refine hva.mono ?_;rintro e w1 ⟨rfl,hb⟩;have HB1:=Lib.hid (HB.out.trans (hb.mono HB.out.size));clear hb hva
     go_wp2
     go_ret
     exact ⟨rfl,HB1.out⟩
theorem jN {num:ByteArray} {ks us:List ByteArray} {k u:Value} (w:World) (h:VS w num ks us k u) (hn:iN num=false∨¬ks.length=us.length):
    Calls prog 26 #[bh 4 false num k u] w fun e w'=>e=.returned (.bool false)∧Below w.heap.size w w':=by
 obtain ⟨a,c,rfl⟩:=h.kr.len;obtain ⟨a',c',rfl⟩:=h.ur.len;have hid:=fun (W:World)=>gF num W (by have:=h.sn.1;omega)
 unfold bh;have hX:eX w.heap.size num (.slice a ks.length c) (.slice a' us.length c') (w.alloc (.cells #[.int .i64 4,.bool false,.string num,.slice a ks.length c,.slice a' us.length c'] 24)):=aq w _;have HX:=Lib.hid hX;have HB:=Lib.hid (aO w (.cells #[.int .i64 4,.bool false,.string num,.slice a ks.length c,.slice a' us.length c'] 24))
 have hni:iN num=false∨(iN num=true∧¬(ks.length:Int)=(us.length:Int)):=by
  cases hq:iN num with
  | false=>exact .inl rfl
  | true=>
    refine .inr ⟨rfl,?_⟩;rcases hn with hn | hn
    · rw[hq] at hn;cases hn
    · omega
 generalize ks.length=n at *;generalize us.length=n' at *;generalize iN num=b at *;clear h hX hn;rcases hni with rfl | ⟨rfl,hne⟩
 · go_enter func26,ntmps26
   go_wp2_with fail
   refine (hid _).mono ?_;rintro e w1 ⟨rfl,hb⟩;have HB1:=Lib.hid (HB.out.trans (hb.mono HB.out.size));clear hb hid HX
   go_wp2
   go_ret
   exact ⟨rfl,HB1.out⟩
 · go_enter func26,ntmps26
   go_wp2_with fail
   refine (hid _).mono ?_;rintro e w1 ⟨rfl,hb⟩;have hX1:=(hb.block _ (ar HX.out)).trans HX.out;have HB1:=Lib.hid (HB.out.trans (hb.mono HB.out.size));have x3:=aa hX1 3;have x4:=aa hX1 4;clear hb hid HX hX1
   go_wp2
   go_ret
   exact ⟨rfl,HB1.out⟩
theorem nc {num:ByteArray} {ks us:List ByteArray} {k u:Value} (w:World) (h:VS w num ks us k u):
    Calls prog 26 #[bh 4 true num k u] w fun e w'=>e=.returned (.bool false)∧Below w.heap.size w w':=by
 obtain ⟨a,c,rfl⟩:=h.kr.len;obtain ⟨a',c',rfl⟩:=h.ur.len;unfold bh;have HB:=Lib.hid (aO w (.cells #[.int .i64 4,.bool true,.string num,.slice a ks.length c,.slice a' us.length c'] 24));generalize ks.length=n at *;generalize us.length=n' at *;clear h
 go_enter func26,ntmps26
 go_wp2
 go_ret
 exact ⟨rfl,HB.out⟩
theorem ng {b:Bool} {num:ByteArray} {ks us:List ByteArray} {k u:Value} (w:World) (h:VS w num ks us k u):
    Calls prog 26 #[bh 4 b num k u] w fun e w'=>e=.returned (.bool (!b && vaF num ks us))∧Below w.heap.size w w':=by
 cases b with
 | true=>exact nc w h
 | false=>
   rw[show (!false && vaF num ks us)=vaF num ks us from by simp];cases hv:vaF num ks us with
   | true=>
     obtain ⟨d,l,rfl,-,har⟩:=h.arr hv;exact ij w har
   | false=>
     cases hn:iN num with
     | false=>exact jN w h (.inl hn)
     | true=>
       by_cases hl:ks.length=us.length
       · obtain ⟨i,h1,h2,h3⟩:=wQ hv hn hl;exact oN w h.kr h.ur h.sn h.sk h.su h.ln hn hl h1 h2 h3
       · exact jN w h (.inr hl)
end Go.Proofs.YtpkfnnkbfphfbaaGreatDoor.Se

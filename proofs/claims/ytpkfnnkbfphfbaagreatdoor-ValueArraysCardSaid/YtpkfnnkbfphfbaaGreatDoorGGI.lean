/- value.Valid and the reference's ValidValue at a value of the sort of arrays, whatever it holds. -/
import Derived.Test.YtpkfnnkbfphfbaaGreatDoorGGD
import Derived.Test.YtpkfnnkbfphfbaaGreatDoorGGE
import Derived.Test.YtpkfnnkbfphfbaaGreatDoorGGF
set_option maxRecDepth 100000
set_option maxHeartbeats 40000000
namespace Go.Proofs.YtpkfnnkbfphfbaaGreatDoor.Se
open Go.RowKit Nmx

structure VS (w:World) (num:ByteArray) (ks us:List ByteArray) (k u:Value):Prop where
  kr:RRow w k ks
  ur:RRow w u us
  ln:ks.length≤12
  lu:us.length≤12
  sn:num.size≤50
  sk:∀t∈ks,t.size≤50
  su:∀t∈us,t.size≤50
theorem VS.far {w w':World} {num:ByteArray} {ks us:List ByteArray} {k u:Value} (h:VS w num ks us k u) (hb:Below w.heap.size w w'):VS w' num ks us k u:=⟨h.kr.far hb,h.ur.far hb,h.ln,h.lu,h.sn,h.sk,h.su⟩
theorem VS.vr {w:World} {num:ByteArray} {ks us:List ByteArray} {k u:Value} (h:VS w num ks us k u):VR w num ks us k u:=⟨h.kr,h.ur,by have:=h.ln;omega,by have:=h.lu;omega,by have:=h.sn;omega⟩
theorem VS.arr {w:World} {num:ByteArray} {ks us:List ByteArray} {k u:Value} (h:VS w num ks us k u) (hv:vaF num ks us=true):∃d l,num=TI d∧l.length=ks.length∧AR w d l k u:=av_of hv h.kr h.ur h.sn h.sk h.su h.ln
section
theorem validArray_out {num:ByteArray} {ks us:List ByteArray} {k u:Value} (w:World) (hE:Env w) (h:VS w num ks us k u) (hn:iN num=false∨¬ks.length=us.length):
    Calls Tryz.prog 34 #[valV 4 false num k u] w fun e w'=>e=.returned (.bool false)∧Below w.heap.size w w':=by
  obtain ⟨a,c,rfl⟩:=h.kr.len
  obtain ⟨a',c',rfl⟩:=h.ur.len
  have hid:=fun (W:World) (hW:Below w.heap.size w W)=>isInt_q num W (by have:=h.sn;omega) (hE.far hW)
  unfold valV
  have hX:ABox w.heap.size num (.slice a ks.length c) (.slice a' us.length c') (w.alloc (.cells #[.int .i64 4,.bool false,.string num,.slice a ks.length c,.slice a' us.length c'] 24)):=heap_alloc_new w _
  have HX:=Lib.hid hX
  have HB:=Lib.hid (alloc_far' w (.cells #[.int .i64 4,.bool false,.string num,.slice a ks.length c,.slice a' us.length c'] 24))
  have hni:iN num=false∨(iN num=true∧¬(ks.length:Int)=(us.length:Int)):=by
    cases hq:iN num with
    | false=>exact .inl rfl
    | true=>
      refine .inr ⟨rfl,?_⟩
      rcases hn with hn | hn
      · rw[hq] at hn;cases hn
      · omega
  generalize ks.length=n at *
  generalize us.length=n' at *
  generalize iN num=b at *
  clear h hE hX hn
  rcases hni with rfl | ⟨rfl,hne⟩
  · go_enter Tryz.func34,Tryz.ntmps34
    go_wp2_with fail
    refine (hid _ HB.out).mono ?_
    rintro e w1 ⟨rfl,hb⟩
    have HB1:=Lib.hid (HB.out.trans (hb.mono HB.out.size))
    clear hb hid HX
    go_wp2
    go_ret
    exact ⟨rfl,HB1.out⟩
  · go_enter Tryz.func34,Tryz.ntmps34
    go_wp2_with fail
    refine (hid _ HB.out).mono ?_
    rintro e w1 ⟨rfl,hb⟩
    have hX1:=(hb.block _ (lt_of_heap HX.out)).trans HX.out
    have HB1:=Lib.hid (HB.out.trans (hb.mono HB.out.size))
    have x3:=heap_cell hX1 3
    have x4:=heap_cell hX1 4
    clear hb hid HX hX1
    go_wp2
    go_ret
    exact ⟨rfl,HB1.out⟩
theorem validArray_any {num:ByteArray} {ks us:List ByteArray} {k u:Value} (w:World) (hE:Env w) (h:VS w num ks us k u):
    Calls Tryz.prog 34 #[valV 4 false num k u] w fun e w'=>e=.returned (.bool (vaF num ks us))∧Below w.heap.size w w':=by
  cases hv:vaF num ks us with
  | true=>
    obtain ⟨d,l,rfl,-,har⟩:=h.arr hv
    exact validArray_av w hE har
  | false=>
    cases hn:iN num with
    | false=>exact validArray_out w hE h (.inl hn)
    | true=>
      by_cases hl:ks.length=us.length
      · obtain ⟨i,h1,h2,h3⟩:=va_bad hv hn hl
        exact validArray_bad w hE h.kr h.ur h.sn h.sk h.su h.ln hn hl h1 h2 h3
      · exact validArray_out w hE h (.inr hl)
theorem validR_any {b:Bool} {num:ByteArray} {ks us:List ByteArray} {k u:Value} (w:World) (hE:Env w) (h:VS w num ks us k u):
    Calls Tryz.prog 12 #[valV 4 b num k u] w fun e w'=>e=.returned (.bool (!b && vaF num ks us))∧Below w.heap.size w w':=by
  have hA:=alloc_far' w (.cells #[.int .i64 4,.bool b,.string num,k,u] 24)
  have HB:=Lib.hid hA
  have hva:=validArray_any (w.alloc (.cells #[.int .i64 4,.bool b,.string num,k,u] 24)) (hE.far hA) (h.far hA)
  obtain ⟨a,c,rfl⟩:=h.kr.len
  obtain ⟨a',c',rfl⟩:=h.ur.len
  unfold valV at hva ⊢
  clear hA h hE
  generalize vaF num ks us=q at *
  generalize ks.length=n at *
  generalize us.length=n' at *
  by_cases hn:n=0
  · subst hn
    cases b with
    | true=>
      go_enter Tryz.func12,Tryz.ntmps12
      go_wp2
      go_ret
      exact ⟨rfl,HB.out⟩
    | false=>
      go_enter Tryz.func12,Tryz.ntmps12
      go_wp2_with fail
      refine hva.mono ?_
      rintro e w1 ⟨rfl,hb⟩
      have HB1:=Lib.hid (HB.out.trans (hb.mono HB.out.size))
      clear hb hva
      go_wp2
      go_ret
      exact ⟨rfl,HB1.out⟩
  · have h0:¬(n:Int)=0:=by omega
    have h0':decide ((n:Int)=0)=false:=decide_eq_false h0
    cases b with
    | true=>
      go_enter Tryz.func12,Tryz.ntmps12
      go_wp2
      go_ret
      exact ⟨rfl,HB.out⟩
    | false=>
      go_enter Tryz.func12,Tryz.ntmps12
      go_wp2_with fail
      refine hva.mono ?_
      rintro e w1 ⟨rfl,hb⟩
      have HB1:=Lib.hid (HB.out.trans (hb.mono HB.out.size))
      clear hb hva
      go_wp2
      go_ret
      exact ⟨rfl,HB1.out⟩
theorem refValid_out {num:ByteArray} {ks us:List ByteArray} {k u:Value} (w:World) (h:VS w num ks us k u) (hn:iN num=false∨¬ks.length=us.length):
    Calls Tryz.prog 26 #[valV 4 false num k u] w fun e w'=>e=.returned (.bool false)∧Below w.heap.size w w':=by
  obtain ⟨a,c,rfl⟩:=h.kr.len
  obtain ⟨a',c',rfl⟩:=h.ur.len
  have hid:=fun (W:World)=>rIsInt_q num W (by have:=h.sn;omega)
  unfold valV
  have hX:ABox w.heap.size num (.slice a ks.length c) (.slice a' us.length c') (w.alloc (.cells #[.int .i64 4,.bool false,.string num,.slice a ks.length c,.slice a' us.length c'] 24)):=heap_alloc_new w _
  have HX:=Lib.hid hX
  have HB:=Lib.hid (alloc_far' w (.cells #[.int .i64 4,.bool false,.string num,.slice a ks.length c,.slice a' us.length c'] 24))
  have hni:iN num=false∨(iN num=true∧¬(ks.length:Int)=(us.length:Int)):=by
    cases hq:iN num with
    | false=>exact .inl rfl
    | true=>
      refine .inr ⟨rfl,?_⟩
      rcases hn with hn | hn
      · rw[hq] at hn;cases hn
      · omega
  generalize ks.length=n at *
  generalize us.length=n' at *
  generalize iN num=b at *
  clear h hX hn
  rcases hni with rfl | ⟨rfl,hne⟩
  · go_enter Tryz.func26,Tryz.ntmps26
    go_wp2_with fail
    refine (hid _).mono ?_
    rintro e w1 ⟨rfl,hb⟩
    have HB1:=Lib.hid (HB.out.trans (hb.mono HB.out.size))
    clear hb hid HX
    go_wp2
    go_ret
    exact ⟨rfl,HB1.out⟩
  · go_enter Tryz.func26,Tryz.ntmps26
    go_wp2_with fail
    refine (hid _).mono ?_
    rintro e w1 ⟨rfl,hb⟩
    have hX1:=(hb.block _ (lt_of_heap HX.out)).trans HX.out
    have HB1:=Lib.hid (HB.out.trans (hb.mono HB.out.size))
    have x3:=heap_cell hX1 3
    have x4:=heap_cell hX1 4
    clear hb hid HX hX1
    go_wp2
    go_ret
    exact ⟨rfl,HB1.out⟩
theorem refValid_true {num:ByteArray} {ks us:List ByteArray} {k u:Value} (w:World) (h:VS w num ks us k u):
    Calls Tryz.prog 26 #[valV 4 true num k u] w fun e w'=>e=.returned (.bool false)∧Below w.heap.size w w':=by
  obtain ⟨a,c,rfl⟩:=h.kr.len
  obtain ⟨a',c',rfl⟩:=h.ur.len
  unfold valV
  have HB:=Lib.hid (alloc_far' w (.cells #[.int .i64 4,.bool true,.string num,.slice a ks.length c,.slice a' us.length c'] 24))
  generalize ks.length=n at *
  generalize us.length=n' at *
  clear h
  go_enter Tryz.func26,Tryz.ntmps26
  go_wp2
  go_ret
  exact ⟨rfl,HB.out⟩
theorem refValidR_any {b:Bool} {num:ByteArray} {ks us:List ByteArray} {k u:Value} (w:World) (h:VS w num ks us k u):
    Calls Tryz.prog 26 #[valV 4 b num k u] w fun e w'=>e=.returned (.bool (!b && vaF num ks us))∧Below w.heap.size w w':=by
  cases b with
  | true=>exact refValid_true w h
  | false=>
    rw[show (!false && vaF num ks us)=vaF num ks us from by simp]
    cases hv:vaF num ks us with
    | true=>
      obtain ⟨d,l,rfl,-,har⟩:=h.arr hv
      exact refValid_av w har
    | false=>
      cases hn:iN num with
      | false=>exact refValid_out w h (.inl hn)
      | true=>
        by_cases hl:ks.length=us.length
        · obtain ⟨i,h1,h2,h3⟩:=va_bad hv hn hl
          exact refValid_bad w h.kr h.ur h.sn h.sk h.su h.ln hn hl h1 h2 h3
        · exact refValid_out w h (.inr hl)
end
end Go.Proofs.YtpkfnnkbfphfbaaGreatDoor.Se

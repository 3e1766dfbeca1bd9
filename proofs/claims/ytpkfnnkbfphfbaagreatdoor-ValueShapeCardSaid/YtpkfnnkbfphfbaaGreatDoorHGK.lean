import Derived.Test.YtpkfnnkbfphfbaaGreatDoorHGI
set_option maxRecDepth 100000
set_option maxHeartbeats 40000000
open Go.Lib (hid)
namespace Go.Proofs.YtpkfnnkbfphfbaaGreatDoor.Se
open Go.RowKit Nmx Go.Proofs.Tryz
theorem cf5 {B:Nat} {ty:TypeId} {W:World} {a0 a1 a2 a3 a4:Value} (h:W.heap[B]? =some (.cells #[a0,a1,a2,a3,a4] ty (0,0))):
    W.cell? ⟨B,0,none⟩=some a0∧W.cell? ⟨B,1,none⟩=some a1∧W.cell? ⟨B,2,none⟩=some a2∧W.cell? ⟨B,3,none⟩=some a3∧W.cell? ⟨B,4,none⟩=some a4∧W.frozen? ⟨B,0,none⟩=false∧W.frozen? ⟨B,1,none⟩=false∧W.frozen? ⟨B,2,none⟩=false∧W.frozen? ⟨B,3,none⟩=false∧W.frozen? ⟨B,4,none⟩=false:=
 ⟨aa h 0,aa h 1,aa h 2,aa h 3,aa h 4,aK h 0,aK h 1,aK h 2,aK h 3,aK h 4⟩
structure SmPost (w:World) (num:ByteArray) (ks us:List ByteArray) (k u:Value) (e:Ending) (w':World):Prop where
 ex:∃r,e=.returned (.bool r)∧(r=true→VS w num ks us k u)
 bel:Below w.heap.size w w'
theorem vp {s:Int} {b:Bool} {num:ByteArray} {ks us:List ByteArray} {k u:Value} (w:World) (hk:RRow w k ks) (hu:RRow w u us):
    Calls prog 14 #[bh s b num k u] w (SmPost w num ks us k u):=by
 obtain ⟨a,c,rfl⟩:=hk.len;obtain ⟨a',c',rfl⟩:=hu.len;unfold bh;have HX:=hid (aq w (.cells #[.int .i64 s,.bool b,.string num,.slice a ks.length c,.slice a' us.length c'] 24));have HB:=hid (aO w (.cells #[.int .i64 s,.bool b,.string num,.slice a ks.length c,.slice a' us.length c'] 24));obtain ⟨n,hn⟩:∃n,ks.length=n:=⟨_,rfl⟩
 obtain ⟨n',hn'⟩:∃n,us.length=n:=⟨_,rfl⟩
 have HN:=hid hn;have HN':=hid hn';rw[hn] at hk;rw[hn'] at hu;have HK:=hid hk;have HU:=hid hu;rw[hn,hn'] at HX HB;rw[hn,hn'];clear hk hu hn hn'
 by_cases h1:(50:Int)<(num.size:Int)
 · go_enter func14,ntmps14
   go_wp2
   go_ret
   exact ⟨⟨false,rfl,fun e=>by cases e⟩,HB.out⟩
 · by_cases h2:(12:Int)<(n:Int)
   · go_enter func14,ntmps14
     go_wp2
     go_ret
     exact ⟨⟨false,rfl,fun e=>by cases e⟩,HB.out⟩
   · by_cases h3:(12:Int)<(n':Int)
     · go_enter func14,ntmps14
       go_wp2
       go_ret
       exact ⟨⟨false,rfl,fun e=>by cases e⟩,HB.out⟩
     · have HL:Hid (num.size≤50∧n≤12∧n'≤12):=hid (by omega)
       go_enter func14,ntmps14
       go_wp2_with fail
       clear h1 h2 h3;have hn12:n≤12:=HL.out.2.1;have hn12':n'≤12:=HL.out.2.2
       go_loopg [3] n (fun gh v wr=>∃(i:Nat),gh=n-i∧i≤n∧v=.int .i64 i∧(∀t∈ks.take i,t.size≤50)∧wr.heap[w.heap.size]? =some (.cells #[.int .i64 s,.bool b,.string num,.slice a n c,.slice a' n' c'] 24 (0,0))∧Below w.heap.size w wr)
       case atStart=>exact ⟨0,rfl,aM _,rfl,(fun t ht=>by simp at ht),HX.out,HB.out⟩
       case round=>
        obtain ⟨i,rfl,hi,rfl,hall,hX,hb⟩:=hrel;clear HX HB;have HB:=hid hb;have HX:=hid hX;have HA:=hid hall;have x3:=aa hX 3;have x4:=aa hX 4;clear hX hb hall;have hi0:(0:Int)≤(i:Int):=by omega
        by_cases hlt:i<n
        · have hlt':(i:Int)<(n:Int):=by omega
          have hl:i<ks.length:=by rw[HN.out];exact hlt
          obtain ⟨g,o,cc,e1,hc⟩:=(HK.out.far HB.out).cell (ay hl);rw[HN.out] at e1;injection e1 with e1 _ e1c;subst e1 e1c;have hst:ks.take (i+1)=ks.take i++[ks[i]]:=by rw[List.take_add_one,ay hl];rfl
          generalize ks[i]=t1 at *
          by_cases h5:(50:Int)<(t1.size:Int)
          · clear hst hl
            go_wp2
            go_ret
            exact ⟨⟨false,rfl,fun e=>by cases e⟩,HB.out⟩
          · have HST:Hid (∀t∈ks.take (i+1),t.size≤50):=hid (by
              intro t ht;rw[hst] at ht;rcases List.mem_append.1 ht with ht | ht
              · exact HA.out t ht
              · rw[List.mem_singleton.1 ht];omega)
            clear hst hl
            go_wp2_with fail
            go_roundg (n-(i+1))
            case rel=>exact ⟨i+1,rfl,by omega,by go_num,HST.out,HX.out,HB.out⟩
            case measure=>omega
        · have hlt':¬((i:Int)<(n:Int)):=by omega
          have HAK:Hid (∀t∈ks,t.size≤50):=hid (by
           have h:=HA.out
           rwa [aT (by rw[HN.out];omega)] at h)
          clear HA
          go_wp2_with fail
          clear x3 x4 hlt' hlt hi0 hi
          go_loopg [4] n' (fun gh v wr=>∃(i:Nat),gh=n'-i∧i≤n'∧v=.int .i64 i∧(∀t∈us.take i,t.size≤50)∧wr.heap[w.heap.size]? =some (.cells #[.int .i64 s,.bool b,.string num,.slice a n c,.slice a' n' c'] 24 (0,0))∧Below w.heap.size w wr)
          case atStart=>exact ⟨0,rfl,aM _,rfl,(fun t ht=>by simp at ht),HX.out,HB.out⟩
          case round=>
           obtain ⟨i,rfl,hi,rfl,hall,hX,hb⟩:=hrel;clear HX HB;have HB:=hid hb;have HX:=hid hX;have HA:=hid hall;have x4:=aa hX 4;clear hX hb hall;have hi0:(0:Int)≤(i:Int):=by omega
           by_cases hlt:i<n'
           · have hlt':(i:Int)<(n':Int):=by omega
             have hl:i<us.length:=by rw[HN'.out];exact hlt
             obtain ⟨g,o,cc,e1,hc⟩:=(HU.out.far HB.out).cell (ay hl);rw[HN'.out] at e1;injection e1 with e1 _ e1c;subst e1 e1c;have hst:us.take (i+1)=us.take i++[us[i]]:=by rw[List.take_add_one,ay hl];rfl
             generalize us[i]=t1 at *
             by_cases h5:(50:Int)<(t1.size:Int)
             · clear hst hl
               go_wp2
               go_ret
               exact ⟨⟨false,rfl,fun e=>by cases e⟩,HB.out⟩
             · have HST:Hid (∀t∈us.take (i+1),t.size≤50):=hid (by
                 intro t ht;rw[hst] at ht;rcases List.mem_append.1 ht with ht | ht
                 · exact HA.out t ht
                 · rw[List.mem_singleton.1 ht];omega)
               clear hst hl
               go_wp2_with fail
               go_roundg (n'-(i+1))
               case rel=>exact ⟨i+1,rfl,by omega,by go_num,HST.out,HX.out,HB.out⟩
               case measure=>omega
           · have hlt':¬((i:Int)<(n':Int)):=by omega
             have HAU:Hid (∀t∈us,t.size≤50):=hid (by
              have h:=HA.out
              rwa [aT (by rw[HN'.out];omega)] at h)
             clear HA
             go_wp2
             go_ret
             exact ⟨⟨true,rfl,fun _=>⟨HK.out,HU.out,by rw[HN.out];exact HL.out.2.1,by rw[HN'.out];exact HL.out.2.2,OkT.of50 HL.out.1,fun t ht=>OkT.of50 (HAK.out t ht),fun t ht=>OkT.of50 (HAU.out t ht)⟩⟩,HB.out⟩
end Go.Proofs.YtpkfnnkbfphfbaaGreatDoor.Se

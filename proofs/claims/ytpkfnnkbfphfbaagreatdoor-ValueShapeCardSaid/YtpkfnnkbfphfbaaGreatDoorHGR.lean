import Derived.Test.YtpkfnnkbfphfbaaGreatDoorHGQ
import Derived.Test.YtpkfnnkbfphfbaaGreatDoorHWV
set_option maxRecDepth 100000
set_option maxHeartbeats 40000000
open Go.Lib (hid)
namespace Go.Proofs.YtpkfnnkbfphfbaaGreatDoor.Se
open Go.RowKit Nmx Go.Proofs.Tryz
structure TmP (ts:List Nd) (er:Int) (w:World) (e:Ending) (w':World):Prop where
 ex:∃ao c,e=.returned (.tuple #[.slice ao ts.length c,.int .i64 er])∧((ts=[]∧ao=none∧c=0)∨∃g,ao=some ⟨g,0,none⟩∧NodesAt w' g ts∧g<w'.heap.size)
 bel:Below w.heap.size w w'
theorem uk {w:World} {ao:Option Addr} {c:Nat} {ts:List Nd} (h:(ts=[]∧ao=none∧c=0)∨∃g,ao=some ⟨g,0,none⟩∧NodesAt w g ts∧g<w.heap.size):NodesO w ao ts:=by
 rcases h with ⟨rfl,rfl,-⟩ | ⟨g,rfl,hn,hg⟩
 · exact fun h=>absurd rfl h
 · exact hn.o hg
theorem sy {w w':World} {x:Nd} {e:Ending} (h:OneN x w e w'):∃g,e=.returned (.slice (some ⟨g,0,none⟩) 1 1)∧NodesAt w' g [x]∧g<w'.heap.size∧Below w.heap.size w w':=by
 obtain ⟨h1,h2,h3⟩:=h;refine ⟨_,h1,fun i y hi j hj=>?_,ar h2,h3⟩
 match i,hi with
 | 0,hi=>
   cases hi
   match j,hj with
   | 0,_=>exact aa h2 0
   | 1,_=>exact aa h2 1
   | 2,_=>exact aa h2 2
   | 3,_=>exact aa h2 3
   | 4,_=>exact aa h2 4
def boN (b:Bool):Nd:=⟨if b then 1 else 2,0,⟨#[]⟩,⟨#[]⟩,0⟩
theorem oP (b:Bool) (w:World):Calls prog 47 #[.bool b] w fun e w'=>∃g,e=.returned (.slice (some ⟨g,0,none⟩) 1 1)∧NodesAt w' g [boN b]∧g<w'.heap.size∧Below w.heap.size w w':=by
 cases b with
 | true=>
   have HT:=hid (oJ w)
   go_enter func47,ntmps47
   go_wp2_with fail
   refine HT.out.mono ?_;rintro e w1 h1;obtain ⟨g,rfl,h2,h3,h4⟩:=sy h1;have HO:Hid (NodesAt w1 g [boN true]∧g<w1.heap.size∧Below w.heap.size w w1):=hid ⟨h2,h3,h4⟩;clear h1 h2 h3 h4
   go_wp2
   go_ret
   exact ⟨g,rfl,HO.out⟩
 | false=>
   have HT:=hid (m8 w)
   go_enter func47,ntmps47
   go_wp2_with fail
   refine HT.out.mono ?_;rintro e w1 h1;obtain ⟨g,rfl,h2,h3,h4⟩:=sy h1;have HO:Hid (NodesAt w1 g [boN false]∧g<w1.heap.size∧Below w.heap.size w w1):=hid ⟨h2,h3,h4⟩;clear h1 h2 h3 h4
   go_wp2
   go_ret
   exact ⟨g,rfl,HO.out⟩
theorem sA (s:ByteArray) (sort:Int) (w:World):Calls prog 48 #[.string s,.int .i64 sort] w fun e w'=>∃g,e=.returned (.slice (some ⟨g,0,none⟩) 1 1)∧NodesAt w' g [⟨3,sort,⟨#[]⟩,s,0⟩]∧g<w'.heap.size∧Below w.heap.size w w':=
 (fL s sort w).mono fun _ _ h=>sy h
theorem yQ (s:ByteArray) (sort:Int) (w:World):Calls prog 37 #[.int .i64 sort,.string s] w fun e w'=>∃g,e=.returned (.slice (some ⟨g,0,none⟩) 1 1)∧NodesAt w' g [⟨3,sort,⟨#[]⟩,s,0⟩]∧g<w'.heap.size∧Below w.heap.size w w':=
 (iU sort s w).mono fun _ _ ⟨g,h1,h2,h3,_,h5⟩=>⟨g,h1,h2,h3,h5⟩
theorem wW (b:Bool) (w:World):Calls prog 50 #[.bool b] w fun e w'=>∃g,e=.returned (.slice (some ⟨g,0,none⟩) 1 1)∧NodesAt w' g [boN b]∧g<w'.heap.size∧Below w.heap.size w w':=
 (wl b w).mono fun _ _ ⟨g,h1,h2,h3,_,h5⟩=>⟨g,h1,h2,h3,h5⟩
theorem yR {s:Int} {b:Bool} {num:ByteArray} {ks us:List ByteArray} {k u:Value} (w:World) (hk:RRow w k ks) (hu:RRow w u us)
    (HV:∀W,Below w.heap.size w W→Calls prog 12 #[bh s b num k u] W fun e w'=>e=.returned (.bool false)∧Below W.heap.size W w'):
    Calls prog 24 #[bh s b num k u] w (TmP [] 1 w):=by
 obtain ⟨a,c,rfl⟩:=hk.len;obtain ⟨a',c',rfl⟩:=hu.len;unfold bh at HV ⊢;have HX:=hid (aq w (.cells #[.int .i64 s,.bool b,.string num,.slice a ks.length c,.slice a' us.length c'] 24));have HB:=hid (aO w (.cells #[.int .i64 s,.bool b,.string num,.slice a ks.length c,.slice a' us.length c'] 24));generalize ks.length=n at *;generalize us.length=n' at *;have HVV:=hid HV;clear hk hu HV
 go_enter func24,ntmps24
 go_wp2_with fail
 refine (HVV.out _ HB.out).mono ?_;rintro e w1 ⟨rfl,hb⟩;have hX1:=(hb.block _ (ar HX.out)).trans HX.out;have HB1:=hid (HB.out.trans (hb.mono HB.out.size));have x0:=aa hX1 0;have x1:=aa hX1 1;have x2:=aa hX1 2;clear hb HX HB hX1;clear x0 x1 x2
 go_wp2
 go_ret2
 exact ⟨⟨none,0,rfl,.inl ⟨rfl,rfl,rfl⟩⟩,HB1.out⟩
theorem vq {s:Int} {b:Bool} {num:ByteArray} {ks us:List ByteArray} {k u:Value} (w:World) (hk:RRow w k ks) (hu:RRow w u us)
    (HV:∀W,Below w.heap.size w W→Calls prog 12 #[bh s b num k u] W fun e w'=>e=.returned (.bool true)∧Below W.heap.size W w') (hs:s=1):
    Calls prog 24 #[bh s b num k u] w (TmP [boN b] 0 w):=by
 obtain ⟨a,c,rfl⟩:=hk.len;obtain ⟨a',c',rfl⟩:=hu.len;unfold bh at HV ⊢;have HX:=hid (aq w (.cells #[.int .i64 s,.bool b,.string num,.slice a ks.length c,.slice a' us.length c'] 24));have HB:=hid (aO w (.cells #[.int .i64 s,.bool b,.string num,.slice a ks.length c,.slice a' us.length c'] 24));generalize ks.length=n at *;generalize us.length=n' at *;have HVV:=hid HV;clear hk hu HV;subst hs
 go_enter func24,ntmps24
 go_wp2_with fail
 refine (HVV.out _ HB.out).mono ?_;rintro e w1 ⟨rfl,hb⟩;have hX1:=(hb.block _ (ar HX.out)).trans HX.out;have HB1:=hid (HB.out.trans (hb.mono HB.out.size));have x0:=aa hX1 0;have x1:=aa hX1 1;have x2:=aa hX1 2;clear hb HX HB hX1
 go_wp2_with fail
 refine (oP b w1).mono ?_;rintro e w2 ⟨g,rfl,h2,h3,h4⟩;have HO:Hid (NodesAt w2 g [boN b]∧g<w2.heap.size∧Below w.heap.size w w2):=hid ⟨h2,h3,HB1.out.trans (h4.mono HB1.out.size)⟩;clear x0 x1 x2 h2 h3 h4
 go_wp2
 go_ret2
 exact ⟨⟨_,1,rfl,.inr ⟨g,rfl,HO.out.1,HO.out.2.1⟩⟩,HO.out.2.2⟩
theorem qu {s:Int} {b:Bool} {num:ByteArray} {ks us:List ByteArray} {k u:Value} (w:World) (hk:RRow w k ks) (hu:RRow w u us)
    (HV:∀W,Below w.heap.size w W→Calls prog 12 #[bh s b num k u] W fun e w'=>e=.returned (.bool true)∧Below W.heap.size W w') (hs:s=2∨s=3):
    Calls prog 24 #[bh s b num k u] w (TmP [⟨3,s,⟨#[]⟩,num,0⟩] 0 w):=by
 obtain ⟨a,c,rfl⟩:=hk.len;obtain ⟨a',c',rfl⟩:=hu.len;unfold bh at HV ⊢;have HX:=hid (aq w (.cells #[.int .i64 s,.bool b,.string num,.slice a ks.length c,.slice a' us.length c'] 24));have HB:=hid (aO w (.cells #[.int .i64 s,.bool b,.string num,.slice a ks.length c,.slice a' us.length c'] 24));generalize ks.length=n at *;generalize us.length=n' at *;have HVV:=hid HV;clear hk hu HV;rcases hs with rfl | rfl
 all_goals
  go_enter func24,ntmps24
  go_wp2_with fail
  refine (HVV.out _ HB.out).mono ?_;rintro e w1 ⟨rfl,hb⟩;have hX1:=(hb.block _ (ar HX.out)).trans HX.out;have HB1:=hid (HB.out.trans (hb.mono HB.out.size));have x0:=aa hX1 0;have x1:=aa hX1 1;have x2:=aa hX1 2;clear hb HX HB hX1
  go_wp2_with fail
  refine (sA num _ w1).mono ?_;rintro e w2 ⟨g,rfl,h2,h3,h4⟩;have HO:=hid (And.intro h2 (And.intro h3 (HB1.out.trans (h4.mono HB1.out.size))));clear x0 x1 x2 h2 h3 h4
  go_wp2
  go_ret2
  exact ⟨⟨_,1,rfl,.inr ⟨g,rfl,HO.out.1,HO.out.2.1⟩⟩,HO.out.2.2⟩
theorem sB {s:Int} {b:Bool} {num:ByteArray} {ks us:List ByteArray} {k u:Value} (w:World) (hk:RRow w k ks) (hu:RRow w u us)
    (HV:∀W,Below w.heap.size w W→Calls prog 26 #[bh s b num k u] W fun e w'=>e=.returned (.bool false)∧Below W.heap.size W w'):
    Calls prog 25 #[bh s b num k u] w (TmP [] 1 w):=by
 obtain ⟨a,c,rfl⟩:=hk.len;obtain ⟨a',c',rfl⟩:=hu.len;unfold bh at HV ⊢;have HX:=hid (aq w (.cells #[.int .i64 s,.bool b,.string num,.slice a ks.length c,.slice a' us.length c'] 24));have HB:=hid (aO w (.cells #[.int .i64 s,.bool b,.string num,.slice a ks.length c,.slice a' us.length c'] 24));generalize ks.length=n at *;generalize us.length=n' at *;have HVV:=hid HV;clear hk hu HV
 go_enter func25,ntmps25
 go_wp2_with fail
 refine (HVV.out _ HB.out).mono ?_;rintro e w1 ⟨rfl,hb⟩;have hX1:=(hb.block _ (ar HX.out)).trans HX.out;have HB1:=hid (HB.out.trans (hb.mono HB.out.size));have x0:=aa hX1 0;have x1:=aa hX1 1;have x2:=aa hX1 2;clear hb HX HB hX1;clear x0 x1 x2
 go_wp2
 go_ret2
 exact ⟨⟨none,0,rfl,.inl ⟨rfl,rfl,rfl⟩⟩,HB1.out⟩
theorem oQ {s:Int} {b:Bool} {num:ByteArray} {ks us:List ByteArray} {k u:Value} (w:World) (hk:RRow w k ks) (hu:RRow w u us)
    (HV:∀W,Below w.heap.size w W→Calls prog 26 #[bh s b num k u] W fun e w'=>e=.returned (.bool true)∧Below W.heap.size W w') (hs:s=1):
    Calls prog 25 #[bh s b num k u] w (TmP [boN b] 0 w):=by
 obtain ⟨a,c,rfl⟩:=hk.len;obtain ⟨a',c',rfl⟩:=hu.len;unfold bh at HV ⊢;have HX:=hid (aq w (.cells #[.int .i64 s,.bool b,.string num,.slice a ks.length c,.slice a' us.length c'] 24));have HB:=hid (aO w (.cells #[.int .i64 s,.bool b,.string num,.slice a ks.length c,.slice a' us.length c'] 24));generalize ks.length=n at *;generalize us.length=n' at *;have HVV:=hid HV;clear hk hu HV;subst hs
 go_enter func25,ntmps25
 go_wp2_with fail
 refine (HVV.out _ HB.out).mono ?_;rintro e w1 ⟨rfl,hb⟩;have hX1:=(hb.block _ (ar HX.out)).trans HX.out;have HB1:=hid (HB.out.trans (hb.mono HB.out.size));have x0:=aa hX1 0;have x1:=aa hX1 1;have x2:=aa hX1 2;clear hb HX HB hX1
 go_wp2_with fail
 refine (wW b w1).mono ?_;rintro e w2 ⟨g,rfl,h2,h3,h4⟩;have HO:Hid (NodesAt w2 g [boN b]∧g<w2.heap.size∧Below w.heap.size w w2):=hid ⟨h2,h3,HB1.out.trans (h4.mono HB1.out.size)⟩;clear x0 x1 x2 h2 h3 h4
 go_wp2
 go_ret2
 exact ⟨⟨_,1,rfl,.inr ⟨g,rfl,HO.out.1,HO.out.2.1⟩⟩,HO.out.2.2⟩
theorem lm {s:Int} {b:Bool} {num:ByteArray} {ks us:List ByteArray} {k u:Value} (w:World) (hk:RRow w k ks) (hu:RRow w u us)
    (HV:∀W,Below w.heap.size w W→Calls prog 26 #[bh s b num k u] W fun e w'=>e=.returned (.bool true)∧Below W.heap.size W w') (hs:s=2∨s=3):
    Calls prog 25 #[bh s b num k u] w (TmP [⟨3,s,⟨#[]⟩,num,0⟩] 0 w):=by
 obtain ⟨a,c,rfl⟩:=hk.len;obtain ⟨a',c',rfl⟩:=hu.len;unfold bh at HV ⊢;have HX:=hid (aq w (.cells #[.int .i64 s,.bool b,.string num,.slice a ks.length c,.slice a' us.length c'] 24));have HB:=hid (aO w (.cells #[.int .i64 s,.bool b,.string num,.slice a ks.length c,.slice a' us.length c'] 24));generalize ks.length=n at *;generalize us.length=n' at *;have HVV:=hid HV;clear hk hu HV;rcases hs with rfl | rfl
 all_goals
  go_enter func25,ntmps25
  go_wp2_with fail
  refine (HVV.out _ HB.out).mono ?_;rintro e w1 ⟨rfl,hb⟩;have hX1:=(hb.block _ (ar HX.out)).trans HX.out;have HB1:=hid (HB.out.trans (hb.mono HB.out.size));have x0:=aa hX1 0;have x1:=aa hX1 1;have x2:=aa hX1 2;clear hb HX HB hX1
  go_wp2_with fail
  refine (yQ num _ w1).mono ?_;rintro e w2 ⟨g,rfl,h2,h3,h4⟩;have HO:=hid (And.intro h2 (And.intro h3 (HB1.out.trans (h4.mono HB1.out.size))));clear x0 x1 x2 h2 h3 h4
  go_wp2
  go_ret2
  exact ⟨⟨_,1,rfl,.inr ⟨g,rfl,HO.out.1,HO.out.2.1⟩⟩,HO.out.2.2⟩
theorem nQ {s:Int} {b:Bool} {num:ByteArray} {ks us:List ByteArray} {k u:Value} (w:World) (hE:Env w) (h:VS w num ks us k u):
    ∃(ts:List Nd) (er:Int),ts.length≤100∧(∀W,Below w.heap.size w W→Calls prog 24 #[bh s b num k u] W (TmP ts er W))∧(∀W,Below w.heap.size w W→Calls prog 25 #[bh s b num k u] W (TmP ts er W))∧
     ((vlV s b num ks us=false∧ts=[]∧er=1)∨(s=1∧er=0∧ts=[boN b])∨((s=2∧iN num=true∨s=3∧vN num=true)∧er=0∧ts=[⟨3,s,⟨#[]⟩,num,0⟩])∨(er=0∧∃d l,num=TI d∧s=4∧b=false∧AR w d l k u∧l.length≤12∧ts=tsA d l)):=by
 cases hv:vlV s b num ks us with
 | false=>
   refine ⟨[],1,aM _,fun W hW=>?_,fun W hW=>?_,.inl ⟨rfl,rfl,rfl⟩⟩
   · exact yR W (h.kr.far hW) (h.ur.far hW) (fun W' hW'=>by have:=sr (s:=s) (b:=b) W' ((hE.far hW).far hW') ((h.far hW).far hW');rwa [hv] at this)
   · exact sB W (h.kr.far hW) (h.ur.far hW) (fun W' hW'=>by have:=kC (s:=s) (b:=b) W' ((h.far hW).far hW');rwa [hv] at this)
 | true=>
   have HP:∀W,Below w.heap.size w W→∀W',Below W.heap.size W W'→Calls prog 12 #[bh s b num k u] W' fun e w'=>e=.returned (.bool true)∧Below W'.heap.size W' w':=fun W hW W' hW'=>by have:=sr (s:=s) (b:=b) W' ((hE.far hW).far hW') ((h.far hW).far hW');rwa [hv] at this
   have HR:∀W,Below w.heap.size w W→∀W',Below W.heap.size W W'→Calls prog 26 #[bh s b num k u] W' fun e w'=>e=.returned (.bool true)∧Below W'.heap.size W' w':=fun W hW W' hW'=>by have:=kC (s:=s) (b:=b) W' ((h.far hW).far hW');rwa [hv] at this
   by_cases h1:s=1
   · exact ⟨[boN b],0,by simp,fun W hW=>vq W (h.kr.far hW) (h.ur.far hW) (HP W hW) h1,fun W hW=>oQ W (h.kr.far hW) (h.ur.far hW) (HR W hW) h1,.inr (.inl ⟨h1,rfl,rfl⟩)⟩
   · have hv2:=hv;unfold vlV at hv2;rw[aB h1] at hv2
     by_cases h2:s=2
     · rw[aF h2] at hv2;simp only[Bool.and_eq_true] at hv2;exact ⟨[⟨3,s,⟨#[]⟩,num,0⟩],0,by simp,fun W hW=>qu W (h.kr.far hW) (h.ur.far hW) (HP W hW) (.inl h2),fun W hW=>lm W (h.kr.far hW) (h.ur.far hW) (HR W hW) (.inl h2),.inr (.inr (.inl ⟨.inl ⟨h2,hv2.2.1⟩,rfl,rfl⟩))⟩
     · rw[aB h2] at hv2
       by_cases h3:s=3
       · rw[aF h3] at hv2;simp only[Bool.and_eq_true] at hv2;exact ⟨[⟨3,s,⟨#[]⟩,num,0⟩],0,by simp,fun W hW=>qu W (h.kr.far hW) (h.ur.far hW) (HP W hW) (.inr h3),fun W hW=>lm W (h.kr.far hW) (h.ur.far hW) (HR W hW) (.inr h3),.inr (.inr (.inl ⟨.inr ⟨h3,hv2.2.1⟩,rfl,rfl⟩))⟩
       · rw[aB h3] at hv2
         by_cases h4:s=4
         · rw[aF h4] at hv2;simp only[Bool.and_eq_true,Bool.not_eq_true'] at hv2;obtain ⟨d,l,rfl,hll,har⟩:=h.arr hv2.2;have hl12:l.length≤12:=by rw[hll];exact h.ln
           obtain ⟨rfl,rfl⟩:=And.intro h4 hv2.1;refine ⟨tsA d l,0,by rw[dl];omega,fun W hW=>?_,fun W hW=>?_,.inr (.inr (.inr ⟨rfl,d,l,rfl,rfl,rfl,har,hl12,rfl⟩))⟩
           · refine (ql W (hE.far hW) (har.far hW) (wU har.sd har.sl (by omega))).mono ?_;rintro e w' ⟨g,c,rfl,q1,q2,q3⟩;exact ⟨⟨_,c,by rw[dl],.inr ⟨g,rfl,q1,q2⟩⟩,q3⟩
           · refine (qp W (har.far hW) (by omega)).mono ?_;rintro e w' ⟨g,c,rfl,q1,q2,q3⟩;exact ⟨⟨_,c,by rw[dl],.inr ⟨g,rfl,q1,q2⟩⟩,q3⟩
         · rw[aB h4] at hv2;cases hv2
theorem oR (a b:List UInt8):(⟨a.toArray⟩:ByteArray)++⟨b.toArray⟩=⟨(a++b).toArray⟩:=by
 apply ByteArray.ext;rw[ByteArray.data_append]
 simp
theorem um (a:ByteArray):a=⟨a.data.toList.toArray⟩:=by
 apply ByteArray.ext
 simp
theorem yS (K:Int) (v:ByteArray) (hK:K=1∧v=⟨#[116,114,117,101]⟩∨K=2∧v=⟨#[102,97,108,115,101]⟩∨K=19∧v=wdO 19∨K=20∧v=wdO 20) (w:World):Sem.run prog (Instr.index 189 (.agg #[.string ⟨#[]⟩,.string ⟨#[116,114,117,101]⟩,.string ⟨#[102,97,108,115,101]⟩,.string ⟨#[]⟩,.string ⟨#[]⟩,.string ⟨#[]⟩,.string ⟨#[110,111,116]⟩,.string ⟨#[97,110,100]⟩,.string ⟨#[111,114]⟩,.string ⟨#[61,62]⟩,.string ⟨#[105,116,101]⟩,.string ⟨#[61]⟩,.string ⟨#[60,61]⟩,.string ⟨#[60]⟩,.string ⟨#[43]⟩,.string ⟨#[42]⟩,.string ⟨#[100,105,118]⟩,.string ⟨#[109,111,100]⟩,.string ⟨#[115,101,108,101,99,116]⟩,.string ⟨#[115,116,111,114,101]⟩,.string ⟨#[99,111,110,115,116]⟩]) (.int .i64 K)) w=.ok (.string v) w:=by
 rcases hK with ⟨rfl,rfl⟩ | ⟨rfl,rfl⟩ | ⟨rfl,rfl⟩ | ⟨rfl,rfl⟩
 all_goals kernel_rfl
theorem kD (K:Int) (v:ByteArray) (hK:K=1∧v=⟨#[116,114,117,101]⟩∨K=2∧v=⟨#[102,97,108,115,101]⟩∨K=19∧v=wdO 19∨K=20∧v=wdO 20) (w:World):Calls prog 121 #[.int .i64 K] w fun e w'=>e=.returned (.string v)∧Below w.heap.size w w':=by
 have hix:=yS K v hK w;clear hK
 go_enter func121,ntmps121
 go_wp2
 go_ret
 exact ⟨rfl,am _ _⟩
theorem jn {D:Nat} {q:Rat} (hq:DS D q) (hD:D≤2000) (g c i:Nat) (ts:List Nd) (sort kids:Int) (name:ByteArray) (w:World) (hi:ts[i]? =some ⟨3,sort,name,TX q,kids⟩) (hts:ts.length≤20000) (hN:NodesAt w g ts):
    Calls prog 81 #[.slice (some ⟨g,0,none⟩) ts.length c,.int .i64 (i:Nat)] w fun e w'=>e=.returned (.tuple #[.string (fnT sort q),.int .i64 ((i+1:Nat):Int)])∧Below w.heap.size w w':=by
 have hlt:=(List.getElem?_eq_some_iff.1 hi).1;obtain ⟨c0,c1,c2,c3,c4⟩:=eG hi hN;have hlt':(i:Int)<(ts.length:Int):=by omega
 have hi0:(0:Int)≤(i:Int):=by omega
 have HF:=hid fun W=>kB hq hD sort W
 have HA:=hid (aO w (.cells #[.int .i64 3,.int .i64 sort,.string name,.string (TX q),.int .i64 kids] 57));have hw1:IntKind.i64.wrap ((i:Int)+1)=((i+1:Nat):Int):=by rw[IntKind.wrap_i64];omega
 generalize TX q=tq at *;generalize fnT sort q=tf at *;generalize ts.length=n at *;clear hi hN hlt
 go_enter func81,ntmps81
 go_wp2_with fail
 generalize w.alloc _=w1 at *;refine (HF.out w1).mono ?_;rintro e w2 ⟨rfl,hb⟩;have HB:=hid (HA.out.trans (hb.mono HA.out.size));clear hb c0 c1 c2 c3 c4
 go_wp2
 go_ret2
 exact ⟨rfl,HB.out⟩
theorem mg (b:Bool) (g c:Nat) (w:World) (hN:NodesAt w g [boN b]):
    Calls prog 81 #[.slice (some ⟨g,0,none⟩) 1 c,.int .i64 0] w fun e w'=>e=.returned (.tuple #[.string (if b then ⟨#[116,114,117,101]⟩ else ⟨#[102,97,108,115,101]⟩),.int .i64 1])∧Below w.heap.size w w':=by
 cases b with
 | true=>
   obtain ⟨c0,c1,c2,c3,c4⟩:=eG (i:=0) (show ([boN true]:List Nd)[0]? =some ⟨1,0,⟨#[]⟩,⟨#[]⟩,0⟩ from rfl) hN;have HA:=hid (aO w (.cells #[.int .i64 1,.int .i64 0,.string ⟨#[]⟩,.string ⟨#[]⟩,.int .i64 0] 57));simp only[Nat.zero_mul,Nat.zero_add] at c0 c1 c2 c3 c4;clear hN
   go_enter func81,ntmps81
   go_wp2_with fail
   generalize w.alloc _=w1 at *;refine (kD _ ⟨#[116,114,117,101]⟩ (.inl ⟨rfl,rfl⟩) w1).mono ?_;rintro e w2 ⟨rfl,hb⟩;have HB:=hid (HA.out.trans (hb.mono HA.out.size));clear hb c0 c1 c2 c3 c4
   go_wp2
   go_ret2
   exact ⟨rfl,HB.out⟩
 | false=>
   obtain ⟨c0,c1,c2,c3,c4⟩:=eG (i:=0) (show ([boN false]:List Nd)[0]? =some ⟨2,0,⟨#[]⟩,⟨#[]⟩,0⟩ from rfl) hN;have HA:=hid (aO w (.cells #[.int .i64 2,.int .i64 0,.string ⟨#[]⟩,.string ⟨#[]⟩,.int .i64 0] 57));simp only[Nat.zero_mul,Nat.zero_add] at c0 c1 c2 c3 c4;clear hN
   go_enter func81,ntmps81
   go_wp2_with fail
   generalize w.alloc _=w1 at *;refine (kD _ ⟨#[102,97,108,115,101]⟩ (.inr (.inl ⟨rfl,rfl⟩)) w1).mono ?_;rintro e w2 ⟨rfl,hb⟩;have HB:=hid (HA.out.trans (hb.mono HA.out.size));clear hb c0 c1 c2 c3 c4
   go_wp2
   go_ret2
   exact ⟨rfl,HB.out⟩
theorem jO (g c i m:Nat) (ts:List Nd) (K sort:Int) (hK:K=19∨K=20) (name num:ByteArray) (nx:Nat→Nat) (out os:Nat→List UInt8) (w:World)
    (hi:ts[i]? =some ⟨K,sort,name,num,(m:Nat)⟩) (hts:ts.length≤20000) (hN:NodesAt w g ts) (hm:m≤1000)
    (h0:nx 0=i+1) (ho0:out 0=40::(wdO K).data.toList) (hos:∀j,j<m→out (j+1)=out j++32::os j) (hol:∀j,j≤m→(out j).length≤1000000)
    (hk:∀j,j<m→∀W,Below w.heap.size w W→Calls prog 81 #[.slice (some ⟨g,0,none⟩) ts.length c,.int .i64 (nx j:Nat)] W fun e w'=>e=.returned (.tuple #[.string ⟨(os j).toArray⟩,.int .i64 (nx (j+1):Nat)])∧Below W.heap.size W w'):
    Calls prog 81 #[.slice (some ⟨g,0,none⟩) ts.length c,.int .i64 (i:Nat)] w fun e w'=>e=.returned (.tuple #[.string ⟨(out m++[41]).toArray⟩,.int .i64 (nx m:Nat)])∧Below w.heap.size w w':=by
 have hlt:=(List.getElem?_eq_some_iff.1 hi).1;obtain ⟨c0,c1,c2,c3,c4⟩:=eG hi hN;have hlt':(i:Int)<(ts.length:Int):=by omega
 have hi0:(0:Int)≤(i:Int):=by omega
 have HA:=hid (aO w (.cells #[.int .i64 K,.int .i64 sort,.string name,.string num,.int .i64 (m:Nat)] 57));have HBX:=hid (aq w (.cells #[.int .i64 K,.int .i64 sort,.string name,.string num,.int .i64 (m:Nat)] 57));have HK:=hid hk;have HOL:=hid hol;have HOS:=hid hos;have HNX0:=hid h0;have hwd:(wdO K).size=5:=by rcases hK with rfl | rfl <;> rfl
 have HO0:Hid ((⟨#[40]⟩:ByteArray)++wdO K=⟨(out 0).toArray⟩):=hid (by
  rw[ho0,um (wdO K),show (⟨#[40]⟩:ByteArray)=⟨([40]:List UInt8).toArray⟩ from rfl,oR]
  simp)
 have HW:=hid fun W=>kD K (wdO K) (by rcases hK with rfl | rfl;exact .inr (.inr (.inl ⟨rfl,rfl⟩));exact .inr (.inr (.inr ⟨rfl,rfl⟩))) W
 have hi1:i+1≤20000:=by omega
 clear hN hi hk hol ho0 hos h0 hlt;generalize wdO K=wd at *;generalize ts.length=n at *;rcases hK with rfl | rfl <;>
 · go_enter func81,ntmps81
   go_wp2_with fail
   generalize hw1:w.alloc _=w1 at *;refine (HW.out w1).mono ?_;rintro e w2 ⟨rfl,hb⟩;have HB2:=hid (HA.out.trans (hb.mono HA.out.size));have HX2:=hid ((hb.block _ (ar HBX.out)).trans HBX.out);have x0:=aa HX2.out 0;have x4:=aa HX2.out 4;clear hb c0 c1 c2 c3 c4 HA HBX hw1 HW
   go_wp2_with fail
   rw[HO0.out]
   go_loopg [1,7,8] m (fun gh v1 v7 v8 wr=>∃(j:Nat),gh=m-j∧j≤m∧v1=.int .i64 (nx j:Nat)∧v7=.string ⟨(out j).toArray⟩∧v8=.int .i64 j∧wr.heap[w.heap.size]? =w2.heap[w.heap.size]? ∧Below w.heap.size w wr)
   case atStart=>exact ⟨0,rfl,aM _,by rw[HNX0.out];go_num,rfl,rfl,rfl,HB2.out⟩
   case round=>
    obtain ⟨j,rfl,hj,rfl,rfl,rfl,hbx,hbw⟩:=hrel;clear x0 x4;have hX:=hbx.trans HX2.out;have HXr:=hid hX;have HBR:=hid hbw;have y4:=aa hX 4;have y0:=aa hX 0;have hsz:(⟨(out j).toArray⟩:ByteArray).size≤1000000:=by have:=HOL.out j hj;simpa [ByteArray.size] using this
    have hj0:(0:Int)≤(j:Int):=by omega
    clear hX hbx hbw;obtain ⟨so,hso⟩:∃s,(⟨(out j).toArray⟩:ByteArray)=s:=⟨_,rfl⟩
    rw[hso] at hsz ⊢;have HSO:=hid hso;clear hso
    by_cases hjm:j<m
    · have hjm':(j:Int)<(m:Int):=by omega
      have HKJ:=hid (HK.out j hjm wr HBR.out);have hst:=HOS.out j hjm;have hl2:=HOL.out (j+1) (by omega)
      have hsk:(⟨(os j).toArray⟩:ByteArray).size≤1000000:=by
       rw[hst,aE,aw] at hl2;have:(os j).length≤1000000:=by omega
       simpa [ByteArray.size] using this
      have HST:Hid (so++((⟨#[32]⟩:ByteArray)++⟨(os j).toArray⟩)=⟨(out (j+1)).toArray⟩):=hid (by
       rw[←HSO.out,show (⟨#[32]⟩:ByteArray)=⟨([32]:List UInt8).toArray⟩ from rfl,oR,oR,hst]
       rfl)
      generalize (⟨(os j).toArray⟩:ByteArray)=sk at *;clear hst hl2
      go_wp2_with fail
      refine HKJ.out.mono ?_;rintro e w4 ⟨rfl,hb⟩;have HB4:=hid (HBR.out.trans (hb.mono HBR.out.size));have HX4:=hid ((hb.block _ (ar HXr.out)).trans (HXr.out.trans HX2.out.symm));clear hb y4 y0 HKJ
      go_wp2_with fail
      go_roundg (m-(j+1))
      case rel=>exact ⟨j+1,rfl,hjm,rfl,by rw[HST.out],by go_num,HX4.out,HB4.out⟩
      case measure=>omega
    · obtain rfl:j=m:=by omega
      have hjm':¬(j:Int)<(j:Int):=by omega
      have HST:Hid (so++⟨#[41]⟩=⟨(out j++[41]).toArray⟩):=hid (by
       rw[←HSO.out,show (⟨#[41]⟩:ByteArray)=⟨([41]:List UInt8).toArray⟩ from rfl,oR])
      go_wp2
      go_ret2
      exact ⟨by rw[←HST.out];rfl,HBR.out⟩
theorem nh {d:Int} {l:Arx.L} (hd:Sm d) (hs:∀p∈l,Sm p.1∧Sm p.2) (hl:l.length≤1000) (g c:Nat) (w0:World) (hg:g<w0.heap.size) (hN:NodesAt w0 g (tsA d l)):
    ∀(k:Nat),k≤l.length→∀(W:World),Below w0.heap.size w0 W→
     Calls prog 81 #[.slice (some ⟨g,0,none⟩) (tsA d l).length c,.int .i64 ((l.length-k:Nat):Nat)] W fun e w'=>e=.returned (.tuple #[.string ⟨(fAk d l k).toArray⟩,.int .i64 ((l.length+2+2*k:Nat):Int)])∧Below W.heap.size W w':=by
 have hts:(tsA d l).length≤20000:=by rw[dl];omega
 have hnum:∀(z:Int),Sm z→∀(i:Nat),(tsA d l)[i]? =some (nuN z)→∀(W:World),Below w0.heap.size w0 W→
     Calls prog 81 #[.slice (some ⟨g,0,none⟩) (tsA d l).length c,.int .i64 (i:Nat)] W fun e w'=>e=.returned (.tuple #[.string ⟨(fiT z).toArray⟩,.int .i64 ((i+1:Nat):Int)])∧Below W.heap.size W w':=by
  intro z hz i hi W hW;have h:=jn hz.ds (by decide) g c i (tsA d l) 2 0 ⟨#[]⟩ W hi hts (hN.below hW hg);rw[um (fnT 2 (z:Rat))] at h;exact h
 intro k
 induction k with
 | zero=>
   intro _ W hW;have h:=jO g c l.length 1 (tsA d l) 20 0 (.inr rfl) ⟨#[]⟩ ⟨#[]⟩ (fun j=>l.length+1+j) (ch4 (40::(wdO 20).data.toList) (40::(wdO 20).data.toList++[32]++fiT d) [] []) (fun _=>fiT d) W (wJ d l) hts (hN.below hW hg) (by decide) rfl rfl (fun j hj=>?_) (fun j hj=>?_) (fun j hj W' hW'=>?_)
   · refine h.mono ?_;rintro e w' ⟨rfl,hb⟩;exact ⟨by simp[fAk,ch4];omega,hb⟩
   · obtain rfl:j=0:=by omega
     simp[ch4]
   · have:=gH hd
     match j,hj with
     | 0,_=>simp[ch4,wdO]
     | 1,_=>simp[ch4,wdO];omega
   · obtain rfl:j=0:=by omega
     exact hnum d hd (l.length+1) (wK d l) W' (hW.trans (hW'.mono hW.size))
 | succ k ih=>
   intro hk W hW;have hp:=hs l[k] (List.getElem_mem _);have e:l[k]? =some l[k]:=ay (by omega);have f1:=gH hp.1;have f2:=gH hp.2;have f3:=uh hd hs k (by omega);obtain ⟨t1,t2⟩:=wL d l (show k<l.length by omega);rw[show l.length+3+2*k=l.length+2+2*k+1 by omega] at t2;have hik:l.length-(k+1)+1=l.length-k:=by omega
   have h:=jO g c (l.length-(k+1)) 3 (tsA d l) 19 0 (.inl rfl) ⟨#[]⟩ ⟨#[]⟩ (ch4 (l.length-(k+1)+1) (l.length+2+2*k) (l.length+2+2*k+1) (l.length+2+2*k+1+1)) (ch4 (40::(wdO 19).data.toList) (40::(wdO 19).data.toList++[32]++fAk d l k) (40::(wdO 19).data.toList++[32]++fAk d l k++[32]++fiT l[k].1) (40::(wdO 19).data.toList++[32]++fAk d l k++[32]++fiT l[k].1++[32]++fiT l[k].2)) (ch4 (fAk d l k) (fiT l[k].1) (fiT l[k].2) []) W (wI d l (by omega)) hts (hN.below hW hg) (by decide) rfl rfl (fun j hj=>?_) (fun j hj=>?_) (fun j hj W' hW'=>?_)
   · refine h.mono ?_;rintro e' w' ⟨rfl,hb⟩;refine ⟨?_,hb⟩;have e1:ch4 (40::(wdO 19).data.toList) (40::(wdO 19).data.toList++[32]++fAk d l k) (40::(wdO 19).data.toList++[32]++fAk d l k++[32]++fiT l[k].1) (40::(wdO 19).data.toList++[32]++fAk d l k++[32]++fiT l[k].1++[32]++fiT l[k].2) 3++[41]=fAk d l (k+1):=by simp[fAk,ch4,e]
     rw[e1,show ch4 (l.length-(k+1)+1) (l.length+2+2*k) (l.length+2+2*k+1) (l.length+2+2*k+1+1) 3=l.length+2+2*(k+1) from by show l.length+2+2*k+1+1=_;omega]
   · match j,hj with
     | 0,_=>simp[ch4]
     | 1,_=>simp[ch4]
     | 2,_=>simp[ch4]
   · match j,hj with
     | 0,_=>simp[ch4,wdO]
     | 1,_=>simp[ch4,wdO];omega
     | 2,_=>simp[ch4,wdO];omega
     | 3,_=>simp[ch4,wdO];omega
   · have hW2:=hW.trans (hW'.mono hW.size)
     match j,hj with
     | 0,_=>
       have:=ih (by omega) W' hW2;show Calls _ _ #[_,.int .i64 ((l.length-(k+1)+1:Nat):Nat)] _ _;rw[hik];exact this
     | 1,_=>exact hnum _ hp.1 (l.length+2+2*k) t1 W' hW2
     | 2,_=>exact hnum _ hp.2 (l.length+2+2*k+1) t2 W' hW2
def boW (b:Bool):ByteArray:=if b then ⟨#[116,114,117,101]⟩ else ⟨#[102,97,108,115,101]⟩
theorem sC (v:Bool) (b g n c:Nat) (acc:List UInt8) (w:World) (hB:Lib.IsBuilder 120 5 b b (Lib.byteCells acc) w) (hacc:acc.length≤1000000)
    (hn:0<n) (c0:w.cell? ⟨g,0,none⟩=some (.int .i64 (if v then 1 else 2))) (c1:w.cell? ⟨g,1,none⟩=some (.int .i64 0)) (c2:w.cell? ⟨g,2,none⟩=some (.string ⟨#[]⟩)) (c3:w.cell? ⟨g,3,none⟩=some (.string ⟨#[]⟩)) (c4:w.cell? ⟨g,4,none⟩=some (.int .i64 0)):
    Calls prog 79 #[.pointer (some ⟨b,0,none⟩),.slice (some ⟨g,0,none⟩) n c,.int .i64 0] w fun e w'=>e=.returned (.int .i64 1)∧Lib.IsBuilder 120 5 b b (Lib.byteCells (acc++(boW v).data.toList)) w'∧Below b w w':=by
 have hbl:=bO hB;cases v with
 | true=>
   have hal:=aO w (.cells #[.int .i64 1,.int .i64 0,.string ⟨#[]⟩,.string ⟨#[]⟩,.int .i64 0] 57);have HB1:=hid (cS hB hal);have HAL:=hid (hal.mono (aL hbl.2));have c0':w.cell? ⟨g,0,none⟩=some (.int .i64 1):=c0;clear hal hB c0
   go_enter func79,ntmps79
   go_wp2_with fail
   generalize hw1:w.alloc (.cells #[.int .i64 1,.int .i64 0,.string ⟨#[]⟩,.string ⟨#[]⟩,.int .i64 0] 57)=w1 at *;have hws:=eV b b (Lib.byteCells acc) (boW true) w1 HB1.out (by rw[Lib.byteCells_length];show acc.length+4≤_;omega) (aL (bO HB1.out).2);have e1:Lib.byteCells acc++Lib.strCells (boW true)=Lib.byteCells (acc++(boW true).data.toList):=by rw[Lib.strCells_eq];unfold Lib.byteCells;rw[List.map_append]
   rw[e1] at hws;clear e1 hw1 c0' c1 c2 c3 c4;refine hws.mono ?_;rintro e w3 ⟨rfl,hB3,hb3⟩;have HB3:=hid hB3;have HBW3:=hid (HAL.out.trans hb3);clear hws hB3 hb3
   go_wp2
   go_ret
   exact ⟨rfl,HB3.out,HBW3.out⟩
 | false=>
   have hal:=aO w (.cells #[.int .i64 2,.int .i64 0,.string ⟨#[]⟩,.string ⟨#[]⟩,.int .i64 0] 57);have HB1:=hid (cS hB hal);have HAL:=hid (hal.mono (aL hbl.2));have c0':w.cell? ⟨g,0,none⟩=some (.int .i64 2):=c0;clear hal hB c0
   go_enter func79,ntmps79
   go_wp2_with fail
   generalize hw1:w.alloc (.cells #[.int .i64 2,.int .i64 0,.string ⟨#[]⟩,.string ⟨#[]⟩,.int .i64 0] 57)=w1 at *;have hws:=eV b b (Lib.byteCells acc) (boW false) w1 HB1.out (by rw[Lib.byteCells_length];show acc.length+5≤_;omega) (aL (bO HB1.out).2);have e1:Lib.byteCells acc++Lib.strCells (boW false)=Lib.byteCells (acc++(boW false).data.toList):=by rw[Lib.strCells_eq];unfold Lib.byteCells;rw[List.map_append]
   rw[e1] at hws;clear e1 hw1 c0' c1 c2 c3 c4;refine hws.mono ?_;rintro e w3 ⟨rfl,hB3,hb3⟩;have HB3:=hid hB3;have HBW3:=hid (HAL.out.trans hb3);clear hws hB3 hb3
   go_wp2
   go_ret
   exact ⟨rfl,HB3.out,HBW3.out⟩
theorem qw (b:Bool):Tm [] 1 1 [boN b] 1:=by
 cases b with
 | true=>exact Tm.one (x:=boN true) (oS 1 [] [] 1 (by decide) (by decide) (by decide) (by decide) (by decide) (by decide) (by decide) (by decide+kernel) (by decide+kernel) (by decide+kernel) (fun e=>absurd e (by decide))) (show ¬(1:Int)=5 by decide) (fun e=>absurd (show (1:Int)=4 from e) (by decide)) (by decide)
 | false=>exact Tm.one (x:=boN false) (oS 2 [] [] 1 (by decide) (by decide) (by decide) (by decide) (by decide) (by decide) (by decide) (by decide+kernel) (by decide+kernel) (by decide+kernel) (fun e=>absurd e (by decide))) (show ¬(2:Int)=5 by decide) (fun e=>absurd (show (2:Int)=4 from e) (by decide)) (by decide)
theorem Bf {s:Int} {q:Rat} (h:s=3∨s=2∧q.den=1):WT 1 [⟨3,s,⟨#[]⟩,TX q,0⟩] s∧Nm [] [⟨3,s,⟨#[]⟩,TX q,0⟩]:=by
 have hn:=wX s q h;have h2:=WE.cons (p:=0) (d:=0) (.nil _ _) hn (.nil _ _);refine ⟨⟨_,_,h2⟩,fun y hy=>?_⟩;obtain rfl:=List.mem_singleton.1 hy;exact ⟨show ¬(3:Int)=5 by decide,fun e=>absurd (show (3:Int)=4 from e) (by decide)⟩
theorem qx (b:Bool) (g c:Nat) (w:World) (hEn:Env w) (hg:g<w.heap.size) (hc:NodesAt w g [boN b]):
    Calls prog 54 #[.slice (some ⟨g,0,none⟩) 1 c] w fun e w'=>e=.returned (.string (boW b))∧Below w.heap.size w w':=by
 have hv:=(WT.vd (qw b).wt (qw b).nm (by decide) (by simp)).1
 have hval:=iR (iT g c [boN b] w (show (1:Nat)≤20000 by decide) hg hc (by
  intro x hx;obtain rfl:=List.mem_singleton.1 hx;show (0:Nat)≤1000
  omega) hEn (by intro x hx;obtain rfl:=List.mem_singleton.1 hx;cases b <;> decide) hv)
 rw[hv] at hval;have HC:=hid hc;have HEn:=hid hEn;clear hc hEn hv;simp only[aw,aN,Nat.zero_add] at hval
 go_enter func54,ntmps54
 go_wp2_with fail
 refine hval.mono ?_;rintro e w2 ⟨rfl,hb2⟩;have hal:=aO w2 (.cells #[.pointer none,.slice none 0 0] 120);have hbw:=iK w2;have hb3:=hb2.trans (hal.mono hb2.size);have hN3:=HC.out.below hb3 hg;have cc:=fun j hj=>hN3 0 _ (show ([boN b]:List Nd)[0]? =some (boN b) from rfl) j hj
 have hwr:=sC b w2.heap.size g 1 c [] _ hbw (by decide) (by decide) (cc 0 (by omega)) (cc 1 (by omega)) (cc 2 (by omega)) (cc 3 (by omega)) (cc 4 (by omega));have HB3:=hid hb3;have HS2:Hid (w.heap.size≤w2.heap.size):=hid hb2.size;rw[List.nil_append] at hwr;clear hval hb2 hal hbw hb3 hN3 cc;obtain ⟨ft,hft⟩:∃ft,boW b=ft:=⟨_,rfl⟩
 rw[hft] at hwr;have HFT:=hid hft;clear hft
 go_wp2_with fail
 generalize hw3:w2.alloc (.cells #[.pointer none,.slice none 0 0] 120)=w3 at *;refine hwr.mono ?_;rintro e w4 ⟨rfl,hB4,hb4⟩;have HB4:=hid (HB3.out.trans (hb4.mono HS2.out));have hst:=Tryz.Builder_String_any w2.heap.size w2.heap.size ft.data.toList w4 hB4 (aL (bO hB4).2);have HS4:Hid (w2.heap.size≤w4.heap.size):=hid (aL (bO hB4).2);clear hwr hB4 hb4 hw3
 go_wp2_with fail
 refine hst.mono ?_;rintro e w5 ⟨rfl,hb5⟩;have HB5:=hid (HB4.out.trans (hb5.mono HS2.out));clear hst hb5
 go_wp2
 go_ret
 exact ⟨by rw[HFT.out];rfl,HB5.out⟩
theorem gI {g n c:Nat} {txt:ByteArray} {ix:Int} (w:World)
    (HV:∀W,Below w.heap.size w W→Calls prog 51 #[.slice (some ⟨g,0,none⟩) n c] W fun e w'=>e=.returned (.bool true)∧Below W.heap.size W w')
    (HF:∀W,Below w.heap.size w W→Calls prog 81 #[.slice (some ⟨g,0,none⟩) n c,.int .i64 0] W fun e w'=>e=.returned (.tuple #[.string txt,.int .i64 ix])∧Below W.heap.size W w'):
    Calls prog 55 #[.slice (some ⟨g,0,none⟩) n c] w fun e w'=>e=.returned (.string txt)∧Below w.heap.size w w':=by
 have HVV:=hid HV;have HFF:=hid HF;clear HV HF
 go_enter func55,ntmps55
 go_wp2_with fail
 refine (HVV.out w (am _ _)).mono ?_;rintro e w1 ⟨rfl,hb⟩;have HB:=hid hb;clear hb
 go_wp2_with fail
 refine (HFF.out w1 HB.out).mono ?_;rintro e w2 ⟨rfl,hb⟩;have HB2:=hid (HB.out.trans (hb.mono HB.out.size));clear hb
 go_wp2
 go_ret
 exact ⟨rfl,HB2.out⟩
theorem AC {s:Int} {b:Bool} {num txt:ByteArray} {ks us:List ByteArray} {k u:Value} {ts:List Nd} {er:Int} (w:World) (hk:RRow w k ks) (hu:RRow w u us)
    (HT:∀W,Below w.heap.size w W→Calls prog 24 #[bh s b num k u] W (TmP ts er W))
    (HF:er=0→∀W g c,Below w.heap.size w W→NodesAt W g ts→g<W.heap.size→Calls prog 54 #[.slice (some ⟨g,0,none⟩) ts.length c] W fun e w'=>e=.returned (.string txt)∧Below W.heap.size W w')
    (hc:(er=1∧ts=[]∧txt=⟨#[]⟩)∨(er=0∧ts≠[])):
    Calls prog 28 #[bh s b num k u] w fun e w'=>e=.returned (.string txt)∧Below w.heap.size w w':=by
 obtain ⟨a,c,rfl⟩:=hk.len;obtain ⟨a',c',rfl⟩:=hu.len;unfold bh at HT ⊢;have HB:=hid (aO w (.cells #[.int .i64 s,.bool b,.string num,.slice a ks.length c,.slice a' us.length c'] 24));generalize ks.length=n at *;generalize us.length=n' at *;have HTT:=hid HT;have HFF:=hid HF;clear hk hu HT HF;rcases hc with ⟨rfl,rfl,rfl⟩ | ⟨rfl,hne⟩
 · go_enter func28,ntmps28
   go_wp2_with fail
   refine (HTT.out _ HB.out).mono ?_;rintro e w1 ⟨⟨ao,c1,rfl,-⟩,hb⟩;have HB1:=hid (HB.out.trans (hb.mono HB.out.size));clear hb
   go_wp2
   go_ret
   exact ⟨rfl,HB1.out⟩
 · go_enter func28,ntmps28
   go_wp2_with fail
   refine (HTT.out _ HB.out).mono ?_;rintro e w1 ⟨⟨ao,c1,rfl,hn⟩,hb⟩
   obtain ⟨g,rfl,hN,hg⟩:∃g,ao=some ⟨g,0,none⟩∧NodesAt w1 g ts∧g<w1.heap.size:=by
    rcases hn with ⟨h,-⟩ | h
    · exact absurd h hne
    · exact h
   have HB1:=hid (HB.out.trans (hb.mono HB.out.size));have HF1:=hid (HFF.out (by first | rfl | trivial) w1 g c1 HB1.out hN hg);clear hb hn hN hg
   go_wp2_with fail
   refine HF1.out.mono ?_;rintro e w2 ⟨rfl,hb⟩;have HB2:=hid (HB1.out.trans (hb.mono HB1.out.size));clear hb
   go_wp2
   go_ret
   exact ⟨rfl,HB2.out⟩
theorem vu {s:Int} {b:Bool} {num txt:ByteArray} {ks us:List ByteArray} {k u:Value} {ts:List Nd} {er:Int} (w:World) (hk:RRow w k ks) (hu:RRow w u us)
    (HT:∀W,Below w.heap.size w W→Calls prog 25 #[bh s b num k u] W (TmP ts er W))
    (HF:er=0→∀W g c,Below w.heap.size w W→NodesAt W g ts→g<W.heap.size→Calls prog 55 #[.slice (some ⟨g,0,none⟩) ts.length c] W fun e w'=>e=.returned (.string txt)∧Below W.heap.size W w')
    (hc:(er=1∧ts=[]∧txt=⟨#[]⟩)∨(er=0∧ts≠[])):
    Calls prog 29 #[bh s b num k u] w fun e w'=>e=.returned (.string txt)∧Below w.heap.size w w':=by
 obtain ⟨a,c,rfl⟩:=hk.len;obtain ⟨a',c',rfl⟩:=hu.len;unfold bh at HT ⊢;have HB:=hid (aO w (.cells #[.int .i64 s,.bool b,.string num,.slice a ks.length c,.slice a' us.length c'] 24));generalize ks.length=n at *;generalize us.length=n' at *;have HTT:=hid HT;have HFF:=hid HF;clear hk hu HT HF;rcases hc with ⟨rfl,rfl,rfl⟩ | ⟨rfl,hne⟩
 · go_enter func29,ntmps29
   go_wp2_with fail
   refine (HTT.out _ HB.out).mono ?_;rintro e w1 ⟨⟨ao,c1,rfl,-⟩,hb⟩;have HB1:=hid (HB.out.trans (hb.mono HB.out.size));clear hb
   go_wp2
   go_ret
   exact ⟨rfl,HB1.out⟩
 · go_enter func29,ntmps29
   go_wp2_with fail
   refine (HTT.out _ HB.out).mono ?_;rintro e w1 ⟨⟨ao,c1,rfl,hn⟩,hb⟩
   obtain ⟨g,rfl,hN,hg⟩:∃g,ao=some ⟨g,0,none⟩∧NodesAt w1 g ts∧g<w1.heap.size:=by
    rcases hn with ⟨h,-⟩ | h
    · exact absurd h hne
    · exact h
   have HB1:=hid (HB.out.trans (hb.mono HB.out.size));have HF1:=hid (HFF.out (by first | rfl | trivial) w1 g c1 HB1.out hN hg);clear hb hn hN hg
   go_wp2_with fail
   refine HF1.out.mono ?_;rintro e w2 ⟨rfl,hb⟩;have HB2:=hid (HB1.out.trans (hb.mono HB1.out.size));clear hb
   go_wp2
   go_ret
   exact ⟨rfl,HB2.out⟩
theorem sD {q:Rat} (h:(TX q).size≤104):DS 104 q:=by
 rw[pL] at h;unfold bB bS at h;have h1:=fU q.num.natAbs;have h2:=fU q.den
 have hn:(aU q.num.natAbs).length≤104:=by
  rw[aE] at h
  split at h
  · rw[aw] at h;omega
  · omega
 refine ⟨aC h1 (Nat.pow_le_pow_right (by decide) hn),?_⟩
 by_cases hd:q.den=1
 · rw[hd];exact Nat.pow_pos (by decide)
 · rw[aB hd,aE,aw] at h;exact aL (aC h2 (Nat.pow_le_pow_right (by decide) (by omega)))
theorem qy {s:Int} {b:Bool} {num:ByteArray} {ks us:List ByteArray} {k u:Value} (w:World) (hE:Env w) (h:VS w num ks us k u):
    ∃txt,(∀W,Below w.heap.size w W→Calls prog 28 #[bh s b num k u] W fun e w'=>e=.returned (.string txt)∧Below W.heap.size W w')∧(∀W,Below w.heap.size w W→Calls prog 29 #[bh s b num k u] W fun e w'=>e=.returned (.string txt)∧Below W.heap.size W w'):=by
 obtain ⟨ts,er,-,hT,hR,hc⟩:=nQ (s:=s) (b:=b) w hE h
 have mk:∀(txt:ByteArray),(er=1∧ts=[]∧txt=⟨#[]⟩)∨(er=0∧ts≠[])→
     (er=0→∀W g c,Below w.heap.size w W→NodesAt W g ts→g<W.heap.size→Calls prog 54 #[.slice (some ⟨g,0,none⟩) ts.length c] W fun e w'=>e=.returned (.string txt)∧Below W.heap.size W w')→
     (er=0→∀W g c,Below w.heap.size w W→NodesAt W g ts→g<W.heap.size→Calls prog 55 #[.slice (some ⟨g,0,none⟩) ts.length c] W fun e w'=>e=.returned (.string txt)∧Below W.heap.size W w')→
     ∃txt,(∀W,Below w.heap.size w W→Calls prog 28 #[bh s b num k u] W fun e w'=>e=.returned (.string txt)∧Below W.heap.size W w')∧(∀W,Below w.heap.size w W→Calls prog 29 #[bh s b num k u] W fun e w'=>e=.returned (.string txt)∧Below W.heap.size W w'):=by
  intro txt h1 h2 h3
  exact ⟨txt,fun W hW=>AC W (h.kr.far hW) (h.ur.far hW) (fun W' hW'=>hT W' (hW.trans (hW'.mono hW.size))) (fun e W' g c hW'=>h2 e W' g c (hW.trans (hW'.mono hW.size))) h1,
   fun W hW=>vu W (h.kr.far hW) (h.ur.far hW) (fun W' hW'=>hR W' (hW.trans (hW'.mono hW.size))) (fun e W' g c hW'=>h3 e W' g c (hW.trans (hW'.mono hW.size))) h1⟩
 rcases hc with ⟨-,rfl,rfl⟩ | ⟨hs,rfl,rfl⟩ | ⟨hs,rfl,rfl⟩ | ⟨rfl,d,l,rfl,rfl,rfl,har,hl,rfl⟩
 · exact mk _ (.inl ⟨rfl,rfl,rfl⟩) (fun e=>absurd e (by decide)) (fun e=>absurd e (by decide))
 · refine mk (boW b) (.inr ⟨rfl,by simp⟩) (fun _ W g c hW hN hg=>qx b g c W (hE.far hW) hg hN) (fun _ W g c hW hN hg=>?_);refine gI (ix:=1) W (fun W' hW'=>dF [] 1 [boN b] 1 g c W' (qw b).wt (by decide) (by simp) (qw b).nm (fun y hy=>aP ((qw b).sh y hy) (by decide)) (hN.below hW' hg) (aC hg hW'.size)) (fun W' hW'=>?_);exact mg b g c W' (hN.below hW' hg)
 · obtain ⟨q,rfl,hq,hqs⟩:∃q,num=TX q∧DS 104 q∧(s=3∨s=2∧q.den=1):=by
     have h104:=h.sn.1;rcases hs with ⟨h2,hi⟩ | ⟨h3,hv⟩
     · obtain ⟨z,rfl,hz⟩:=h.sn.2 hi;exact ⟨(z:Rat),rfl,⟨Nat.lt_of_lt_of_le hz.ds.1 (Nat.pow_le_pow_right (by omega) (by decide)),Nat.le_trans hz.ds.2 (Nat.pow_le_pow_right (by omega) (by decide))⟩,.inr ⟨h2,Rat.den_intCast z⟩⟩
     · unfold vN at hv;obtain ⟨q,hq⟩:=Option.isSome_iff_exists.1 hv;have hr:=fc hq;have:num=TX q:=by unfold TX;rw[hr]
       subst this;exact ⟨q,rfl,sD h104,.inl h3⟩
   obtain ⟨hwt,hnm⟩:=Bf hqs;refine mk (fnT s q) (.inr ⟨rfl,by simp⟩) (fun _ W g c hW hN hg=>tU hq (by decide) s (WT.vd hwt hnm (by decide) (by simp)).1 g c W (hE.far hW) hg hN) (fun _ W g c hW hN hg=>?_);refine gI (ix:=((0+1:Nat):Int)) W (fun W' hW'=>dF [] 1 [⟨3,s,⟨#[]⟩,TX q,0⟩] s g c W' hwt (by decide) (by simp) hnm (fun y hy=>?_) (hN.below hW' hg) (aC hg hW'.size)) (fun W' hW'=>?_)
   · obtain rfl:=List.mem_singleton.1 hy;show (TX q).size≤1000;have:=h.sn.1
     omega
   · exact jn hq (by decide) g c 0 [⟨3,s,⟨#[]⟩,TX q,0⟩] s 0 ⟨#[]⟩ W' rfl (by simp) (hN.below hW' hg)
 · have hvd:=wU har.sd har.sl (show l.length≤200 by omega);have htm:=oO [] har.sd l.length l rfl har.sl;refine mk ⟨(fAk d l l.length).toArray⟩ (.inr ⟨rfl,fun e=>by have:=congrArg List.length e;rw[dl] at this;simp at this⟩) (fun _ W g c hW hN hg=>?_) (fun _ W g c hW hN hg=>?_)
   · have:=lZ (har.far hW) hvd g c W (hE.far hW) hg hN;rwa [←dl d l] at this
   · refine gI (ix:=((l.length+2+2*l.length:Nat):Int)) W (fun W' hW'=>dF [] (l.length+2) (tsA d l) 4 g c W' htm.wt (by omega) (by rw[dl];omega) htm.nm (fun y hy=>aP (htm.sh y hy) (by decide)) (hN.below hW' hg) (aC hg hW'.size)) (fun W' hW'=>?_);have:=nh har.sd har.sl (by omega) g c W hg hN l.length (aj _) W' hW';rwa [Nat.sub_self] at this
def eqV (s s':Int) (b b':Bool) (t t':ByteArray) (ks ks' us us':List ByteArray):Bool:=decide (s=s') && (b==b' && (decide (t=t') && (decide (ks=ks') && decide (us=us'))))
theorem kE {s s':Int} {b b':Bool} {t t':ByteArray} {ks ks' us us':List ByteArray} {k u k' u':Value} (w:World) (h:VR w t ks us k u) (h':VR w t' ks' us' k' u'):
    Calls prog 22 #[bh s b t k u,bh s' b' t' k' u'] w fun e w'=>e=.returned (.bool (eqV s s' b b' t t' ks ks' us us'))∧Below w.heap.size w w':=by
 have hA:=aO w (.cells #[.int .i64 s,.bool b,.string t,k,u] 24);have hA2:=aO (w.alloc (.cells #[.int .i64 s,.bool b,.string t,k,u] 24)) (.cells #[.int .i64 s',.bool b',.string t',k',u'] 24);have b1:=(hA2.block _ (ar (aq w (.cells #[.int .i64 s,.bool b,.string t,k,u] 24)))).trans (aq w (.cells #[.int .i64 s,.bool b,.string t,k,u] 24));have b2:=aq (w.alloc (.cells #[.int .i64 s,.bool b,.string t,k,u] 24)) (.cells #[.int .i64 s',.bool b',.string t',k',u'] 24);rw[show (w.alloc (.cells #[.int .i64 s,.bool b,.string t,k,u] 24)).heap.size=w.heap.size+1 by simp] at b2;have HK:=hid fun W (hW:Below w.heap.size w W)=>ui W (h.kr.far hW) (h'.kr.far hW) (by have:=h.ln;omega) (by have:=h'.ln;omega)
 have HU:=hid fun W (hW:Below w.heap.size w W)=>ui W (h.ur.far hW) (h'.ur.far hW) (by have:=h.lu;omega) (by have:=h'.lu;omega)
 have HB:=hid (hA.trans (hA2.mono hA.size));have HX1:=hid b1;have HX2:=hid b2;have hq:=mb t t';obtain ⟨a,c,rfl⟩:=h.kr.len;obtain ⟨a',c',rfl⟩:=h.ur.len;obtain ⟨a1,c1,rfl⟩:=h'.kr.len;obtain ⟨a1',c1',rfl⟩:=h'.ur.len;unfold bh eqV;clear hA hA2 b1 b2 h h';generalize ks.length=n at *;generalize us.length=n' at *;generalize ks'.length=m at *;generalize us'.length=m' at *;generalize decide (ks=ks')=bk at *;generalize decide (us=us')=bu at *;generalize decide (t=t')=bt at *
 by_cases hs:s=s'
 · subst hs;rw[aH rfl,Bool.true_and]
   by_cases hb:b=b'
   · subst hb;rw[show (b==b)=true from beq_self_eq_true b,Bool.true_and];cases bt with
     | false=>
       clear HK HU;cases b
       all_goals
        go_enter func22,ntmps22
        go_wp2
        go_ret
        exact ⟨rfl,HB.out⟩
     | true=>
       rw[Bool.true_and];cases b
       all_goals
        go_enter func22,ntmps22
        go_wp2_with fail
        generalize hw1:World.alloc _ _=w1 at *;refine (HK.out _ HB.out).mono ?_;rintro e w2 ⟨rfl,hb⟩;have hX1:=(hb.block _ (ar HX1.out)).trans HX1.out;have hX2:=(hb.block _ (ar HX2.out)).trans HX2.out;have x4:=aa hX1 4;have y4:=aa hX2 4;have HB2:=hid (HB.out.trans (hb.mono HB.out.size));clear hb hX1 hX2 HX1 HX2 HB hw1;cases bk with
        | false=>
          go_wp2
          go_ret
          exact ⟨rfl,HB2.out⟩
        | true=>
          go_wp2_with fail
          refine (HU.out _ HB2.out).mono ?_;rintro e w3 ⟨rfl,hb⟩;have HB3:=hid (HB2.out.trans (hb.mono HB2.out.size));clear hb x4 y4
          go_wp2
          go_ret
          exact ⟨rfl,HB3.out⟩
   · have hbb:(b==b')=false:=beq_false_of_ne hb;rw[hbb,Bool.false_and];clear HK HU hq;cases b <;> cases b' <;> first | exact absurd rfl hb | skip
     all_goals
      clear hb hbb
      go_enter func22,ntmps22
      go_wp2
      go_ret
      exact ⟨rfl,HB.out⟩
 · rw[aD hs,Bool.false_and];clear HK HU hq
   go_enter func22,ntmps22
   go_wp2
   go_ret
   exact ⟨rfl,HB.out⟩
theorem jo {s s':Int} {b b':Bool} {t t':ByteArray} {ks ks' us us':List ByteArray} {k u k' u':Value} (w:World) (h:VR w t ks us k u) (h':VR w t' ks' us' k' u'):
    Calls prog 11 #[bh s b t k u,bh s' b' t' k' u'] w fun e w'=>e=.returned (.bool (eqV s s' b b' t t' ks ks' us us'))∧Below w.heap.size w w':=by
 have hA:=aO w (.cells #[.int .i64 s,.bool b,.string t,k,u] 24);have hA2:=aO (w.alloc (.cells #[.int .i64 s,.bool b,.string t,k,u] 24)) (.cells #[.int .i64 s',.bool b',.string t',k',u'] 24);have b1:=(hA2.block _ (ar (aq w (.cells #[.int .i64 s,.bool b,.string t,k,u] 24)))).trans (aq w (.cells #[.int .i64 s,.bool b,.string t,k,u] 24));have b2:=aq (w.alloc (.cells #[.int .i64 s,.bool b,.string t,k,u] 24)) (.cells #[.int .i64 s',.bool b',.string t',k',u'] 24);rw[show (w.alloc (.cells #[.int .i64 s,.bool b,.string t,k,u] 24)).heap.size=w.heap.size+1 by simp] at b2;have HK:=hid fun W (hW:Below w.heap.size w W)=>jM W (h.kr.far hW) (h'.kr.far hW) (by have:=h.ln;omega)
 have HU:=hid fun W (hW:Below w.heap.size w W)=>jM W (h.ur.far hW) (h'.ur.far hW) (by have:=h.lu;omega)
 have HB:=hid (hA.trans (hA2.mono hA.size));have HX1:=hid b1;have HX2:=hid b2;have hq:=mb t t';obtain ⟨a,c,rfl⟩:=h.kr.len;obtain ⟨a',c',rfl⟩:=h.ur.len;obtain ⟨a1,c1,rfl⟩:=h'.kr.len;obtain ⟨a1',c1',rfl⟩:=h'.ur.len;unfold bh eqV;clear hA hA2 b1 b2 h h';generalize ks.length=n at *;generalize us.length=n' at *;generalize ks'.length=m at *;generalize us'.length=m' at *;generalize decide (ks=ks')=bk at *;generalize decide (us=us')=bu at *;generalize decide (t=t')=bt at *
 by_cases hs:s=s'
 · subst hs;rw[aH rfl,Bool.true_and]
   by_cases hb:b=b'
   · subst hb;rw[show (b==b)=true from beq_self_eq_true b,Bool.true_and];cases bt with
     | false=>
       clear HK HU;cases b
       all_goals
        go_enter func11,ntmps11
        go_wp2
        go_ret
        exact ⟨rfl,HB.out⟩
     | true=>
       rw[Bool.true_and];cases b
       all_goals
        go_enter func11,ntmps11
        go_wp2_with fail
        generalize hw1:World.alloc _ _=w1 at *;refine (HK.out _ HB.out).mono ?_;rintro e w2 ⟨rfl,hb⟩;have hX1:=(hb.block _ (ar HX1.out)).trans HX1.out;have hX2:=(hb.block _ (ar HX2.out)).trans HX2.out;have x4:=aa hX1 4;have y4:=aa hX2 4;have HB2:=hid (HB.out.trans (hb.mono HB.out.size));clear hb hX1 hX2 HX1 HX2 HB hw1;cases bk with
        | false=>
          go_wp2
          go_ret
          exact ⟨rfl,HB2.out⟩
        | true=>
          go_wp2_with fail
          refine (HU.out _ HB2.out).mono ?_;rintro e w3 ⟨rfl,hb⟩;have HB3:=hid (HB2.out.trans (hb.mono HB2.out.size));clear hb x4 y4
          go_wp2
          go_ret
          exact ⟨rfl,HB3.out⟩
   · have hbb:(b==b')=false:=beq_false_of_ne hb;rw[hbb,Bool.false_and];clear HK HU hq;cases b <;> cases b' <;> first | exact absurd rfl hb | skip
     all_goals
      clear hb hbb
      go_enter func11,ntmps11
      go_wp2
      go_ret
      exact ⟨rfl,HB.out⟩
 · rw[aD hs,Bool.false_and];clear HK HU hq
   go_enter func11,ntmps11
   go_wp2
   go_ret
   exact ⟨rfl,HB.out⟩
end Go.Proofs.YtpkfnnkbfphfbaaGreatDoor.Se

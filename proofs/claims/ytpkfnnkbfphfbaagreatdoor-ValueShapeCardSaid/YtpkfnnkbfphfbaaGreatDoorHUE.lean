import Derived.Test.YtpkfnnkbfphfbaaGreatDoorHUD
import Derived.Test.YtpkfnnkbfphfbaaGreatDoorHLS
set_option maxRecDepth 100000
set_option maxHeartbeats 40000000
namespace Go.Proofs.YtpkfnnkbfphfbaaGreatDoor.Se
open Go.RowKit Go.Proofs.Tryz
structure RX (S g n cap:Nat) (l:List Int) (w W:World):Prop where
 row:RowI W (some ⟨g,0,none⟩) g l
 hd:W.cell? ⟨g,0,none⟩=some (.int .i64 (l.getD 0 0))
 box:W.cell? ⟨S+1,0,none⟩=some (.slice (some ⟨g,0,none⟩) n cap)
 lt:S+1<W.heap.size
 bel:Below S w W
theorem RX.far {S g n cap:Nat} {l:List Int} {w W W':World} (h:RX S g n cap l w W) (hb:Below W.heap.size W W'):RX S g n cap l w W':=
 ⟨h.row.far hb,(hb.cell (p:=⟨g,0,none⟩) h.row.lt).trans h.hd,(hb.cell (p:=⟨S+1,0,none⟩) h.lt).trans h.box,aC h.lt hb.size,h.bel.trans (hb.mono (by have:=h.lt;omega))⟩
theorem RX.drew {S g n cap:Nat} {l:List Int} {w W:World} (h:RX S g n cap l w W):RX S g n cap l w W.drew:=
 ⟨⟨h.row.at0,h.row.lt,h.row.few,h.row.cell⟩,h.hd,h.box,h.lt,aZ h.bel 1⟩
theorem yq {K:Int} (hK:K=14∨K=15) (sort kids:Int) (name num:ByteArray) (ao:Option Addr) (g cap:Nat) (l:List Int) (w:World) (hr:RowI w ao g l) (hlen:1≤l.length):
    Calls prog 112 #[.agg #[.int .i64 K,.int .i64 sort,.string name,.string num,.int .i64 kids],.slice ao l.length cap] w fun e w'=>e=.returned (.tuple #[.int .i64 (rsF K sort l).1,.bool (rsF K sort l).2])∧Below w.heap.size w w':=by
 have hao:=hr.at0 (by omega);subst hao;have hb:Below w.heap.size w ((w.alloc (.cells #[.int .i64 K,.int .i64 sort,.string name,.string num,.int .i64 kids] 57)).alloc (.cells #[.slice (some ⟨g,0,none⟩) l.length cap] 33)):=((am _ _).alloc (aj _) _).alloc (by simp) _;have hr2:=hr.far hb;have HX:Hid (RX w.heap.size g l.length cap l w ((w.alloc (.cells #[.int .i64 K,.int .i64 sort,.string name,.string num,.int .i64 kids] 57)).alloc (.cells #[.slice (some ⟨g,0,none⟩) l.length cap] 33))):=Lib.hid ⟨hr2,hr2.get (t:=0) (by omega),by rw[World.cell?_alloc_at _ _ _ _ (by simp)];rfl,by simp,hb⟩;have HF:=Lib.hid (show rsF K sort l=(l.getD 0 0,dG l 2 || dG l 3) from by rcases hK with rfl | rfl <;> rfl);generalize hS:w.heap.size=S at *;have hal:∀(s:Int) (W:World),RowI W (some ⟨g,0,none⟩) g l→W.cell? ⟨S+1,0,none⟩=some (.slice (some ⟨g,0,none⟩) l.length cap)→S+1<W.heap.size→Calls prog 156 #[.int .i64 s,.pointer (some ⟨S+1,0,none⟩)] W fun e w'=>e=.returned (.bool (dG l s))∧Below W.heap.size W w':=fun s W h1 h2 h3=>kj (some ⟨g,0,none⟩) g cap l s (S+1) W h1 h2 h3
 generalize hn:l.length=n at *;have hi0:0<n:=by omega
 have HS:=Lib.hid hS;clear hn hr hr2 hb hS;rcases hK with rfl | rfl
 all_goals
  by_cases h2:dG l 2=true
  · go_enter func112,ntmps112
    go_wp2
    rw[HS.out];generalize (w.alloc (.cells #[.int .i64 _,.int .i64 sort,.string name,.string num,.int .i64 kids] 57)).alloc (.cells #[.slice (some ⟨g,0,none⟩) n cap] 33)=w2 at *;refine cF [[],[0],[0,1],[],[3],[3,4],[3,4,5],[3,4,5,6],[3,4,5,6,7],[0,1,2,3,4,5,6,7],[0,1,2,3,4,5,6,7,8,9]] (fun W=>RX S g n cap l w W) (fun _=>True) ?_;apply bz
    · intro x;go_simp;done
    · intro x W R hW hF hR;have c0:=hW.box;have c1:=hW.hd;clear hF;unfold aR
      go_simp
      simp only[aJ];exact hR _ (am _ _)
    simp only[Act.put,ac,ag,ah];apply bz
    · intro x;go_simp;done
    · intro x W R hW hF hR;have c0:=hW.box;have c1:=hW.hd;clear hF;unfold aR
      go_simp
      simp only[aJ];exact hR _ (am _ _)
    simp only[Act.put,ac,ag,ah]
    iterate 2
     apply bz
     · intro x;go_simp;done
     · intro x W R hW hF hR;have c0:=hW.box;have c1:=hW.hd;clear hF;unfold aR
       go_simp
       simp only[aJ];exact hR _ (am _ _)
     simp only[Act.put,ac,ag,ah]
    apply bz
    · intro x;go_simp;done
    · intro x W R hW hF hR;have c0:=hW.box;have c1:=hW.hd;clear hF;unfold aR
      go_simp
      simp only[aJ];have hd:=hal 2 W hW.row hW.box hW.lt;rw[h2] at hd;refine hd.mono ?_;rintro e w4 ⟨rfl,hb4⟩;exact ⟨_,rfl,hR _ hb4⟩
    simp only[Act.put,ac,ag,ah];apply bz
    · intro x;go_simp;done
    · intro x W R hW hF hR;have c0:=hW.box;have c1:=hW.hd;clear hF;unfold aR
      go_simp
      simp only[aJ];exact hR _ (am _ _)
    simp only[Act.put,ac,ag,ah]
    iterate 2
     refine AI (fun x=>by go_simp;done) ?_;simp only[Act.put,ac,ag,ah]
    iterate 3
     apply bz
     · intro x;go_simp;done
     · intro x W R hW hF hR;have c0:=hW.box;have c1:=hW.hd;clear hF;unfold aR
       go_simp
       simp only[aJ];exact hR _ (am _ _)
     simp only[Act.put,ac,ag,ah]
    refine ie (by kernel_rfl) (by kernel_rfl) (by kernel_rfl) (fun _ _ h hb=>h.far hb) (fun _ _ _ _=>trivial) (fun _ _=>trivial) (HX.out.drew) ?_;intro x W hE hW hF hD;clear hD;have HB:=Lib.hid (hW rfl).bel;clear hW hF
    try go_wp2
    go_ret2
    exact ⟨by rw[HF.out,h2];rfl,HB.out⟩
  · have h2:dG l 2=false:=by simpa using h2
    by_cases h3:dG l 3=true
    · go_enter func112,ntmps112
      go_wp2
      rw[HS.out];generalize (w.alloc (.cells #[.int .i64 _,.int .i64 sort,.string name,.string num,.int .i64 kids] 57)).alloc (.cells #[.slice (some ⟨g,0,none⟩) n cap] 33)=w2 at *;refine cF [[],[0],[0,1],[],[3],[3,4],[3,4,5],[3,4,5,6],[3,4,5,6,7],[0,1,2,3,4,5,6,7],[0,1,2,3,4,5,6,7,8,9]] (fun W=>RX S g n cap l w W) (fun _=>True) ?_;apply bz
      · intro x;go_simp;done
      · intro x W R hW hF hR;have c0:=hW.box;have c1:=hW.hd;clear hF;unfold aR
        go_simp
        simp only[aJ];exact hR _ (am _ _)
      simp only[Act.put,ac,ag,ah];apply bz
      · intro x;go_simp;done
      · intro x W R hW hF hR;have c0:=hW.box;have c1:=hW.hd;clear hF;unfold aR
        go_simp
        simp only[aJ];exact hR _ (am _ _)
      simp only[Act.put,ac,ag,ah]
      iterate 2
       apply bz
       · intro x;go_simp;done
       · intro x W R hW hF hR;have c0:=hW.box;have c1:=hW.hd;clear hF;unfold aR
         go_simp
         simp only[aJ];exact hR _ (am _ _)
       simp only[Act.put,ac,ag,ah]
      apply bz
      · intro x;go_simp;done
      · intro x W R hW hF hR;have c0:=hW.box;have c1:=hW.hd;clear hF;unfold aR
        go_simp
        simp only[aJ];have hd:=hal 2 W hW.row hW.box hW.lt;rw[h2] at hd;refine hd.mono ?_;rintro e w4 ⟨rfl,hb4⟩;exact ⟨_,rfl,hR _ hb4⟩
      simp only[Act.put,ac,ag,ah];apply bz
      · intro x;go_simp;done
      · intro x W R hW hF hR;have c0:=hW.box;have c1:=hW.hd;clear hF;unfold aR
        go_simp
        simp only[aJ];exact hR _ (am _ _)
      simp only[Act.put,ac,ag,ah];apply bz
      · intro x;go_simp;done
      · intro x W R hW hF hR;have c0:=hW.box;have c1:=hW.hd;clear hF;unfold aR
        go_simp
        simp only[aJ];exact hR _ (am _ _)
      simp only[Act.put,ac,ag,ah];apply bz
      · intro x;go_simp;done
      · intro x W R hW hF hR;have c0:=hW.box;have c1:=hW.hd;clear hF;unfold aR
        go_simp
        simp only[aJ];have hd:=hal 3 W hW.row hW.box hW.lt;rw[h3] at hd;refine hd.mono ?_;rintro e w4 ⟨rfl,hb4⟩;exact ⟨_,rfl,hR _ hb4⟩
      simp only[Act.put,ac,ag,ah]
      iterate 3
       apply bz
       · intro x;go_simp;done
       · intro x W R hW hF hR;have c0:=hW.box;have c1:=hW.hd;clear hF;unfold aR
         go_simp
         simp only[aJ];exact hR _ (am _ _)
       simp only[Act.put,ac,ag,ah]
      refine ie (by kernel_rfl) (by kernel_rfl) (by kernel_rfl) (fun _ _ h hb=>h.far hb) (fun _ _ _ _=>trivial) (fun _ _=>trivial) (HX.out.drew) ?_;intro x W hE hW hF hD;clear hD;have HB:=Lib.hid (hW rfl).bel;clear hW hF
      try go_wp2
      go_ret2
      exact ⟨by rw[HF.out,h2,h3];rfl,HB.out⟩
    · have h3:dG l 3=false:=by simpa using h3
      go_enter func112,ntmps112
      go_wp2
      rw[HS.out];generalize (w.alloc (.cells #[.int .i64 _,.int .i64 sort,.string name,.string num,.int .i64 kids] 57)).alloc (.cells #[.slice (some ⟨g,0,none⟩) n cap] 33)=w2 at *;refine cF [[],[0],[0,1],[],[3],[3,4],[3,4,5],[3,4,5,6],[3,4,5,6,7],[0,1,2,3,4,5,6,7],[0,1,2,3,4,5,6,7,8,9]] (fun W=>RX S g n cap l w W) (fun _=>True) ?_;apply bz
      · intro x;go_simp;done
      · intro x W R hW hF hR;have c0:=hW.box;have c1:=hW.hd;clear hF;unfold aR
        go_simp
        simp only[aJ];exact hR _ (am _ _)
      simp only[Act.put,ac,ag,ah];apply bz
      · intro x;go_simp;done
      · intro x W R hW hF hR;have c0:=hW.box;have c1:=hW.hd;clear hF;unfold aR
        go_simp
        simp only[aJ];exact hR _ (am _ _)
      simp only[Act.put,ac,ag,ah]
      iterate 2
       apply bz
       · intro x;go_simp;done
       · intro x W R hW hF hR;have c0:=hW.box;have c1:=hW.hd;clear hF;unfold aR
         go_simp
         simp only[aJ];exact hR _ (am _ _)
       simp only[Act.put,ac,ag,ah]
      apply bz
      · intro x;go_simp;done
      · intro x W R hW hF hR;have c0:=hW.box;have c1:=hW.hd;clear hF;unfold aR
        go_simp
        simp only[aJ];have hd:=hal 2 W hW.row hW.box hW.lt;rw[h2] at hd;refine hd.mono ?_;rintro e w4 ⟨rfl,hb4⟩;exact ⟨_,rfl,hR _ hb4⟩
      simp only[Act.put,ac,ag,ah];apply bz
      · intro x;go_simp;done
      · intro x W R hW hF hR;have c0:=hW.box;have c1:=hW.hd;clear hF;unfold aR
        go_simp
        simp only[aJ];exact hR _ (am _ _)
      simp only[Act.put,ac,ag,ah];apply bz
      · intro x;go_simp;done
      · intro x W R hW hF hR;have c0:=hW.box;have c1:=hW.hd;clear hF;unfold aR
        go_simp
        simp only[aJ];exact hR _ (am _ _)
      simp only[Act.put,ac,ag,ah];apply bz
      · intro x;go_simp;done
      · intro x W R hW hF hR;have c0:=hW.box;have c1:=hW.hd;clear hF;unfold aR
        go_simp
        simp only[aJ];have hd:=hal 3 W hW.row hW.box hW.lt;rw[h3] at hd;refine hd.mono ?_;rintro e w4 ⟨rfl,hb4⟩;exact ⟨_,rfl,hR _ hb4⟩
      simp only[Act.put,ac,ag,ah]
      iterate 3
       apply bz
       · intro x;go_simp;done
       · intro x W R hW hF hR;have c0:=hW.box;have c1:=hW.hd;clear hF;unfold aR
         go_simp
         simp only[aJ];exact hR _ (am _ _)
       simp only[Act.put,ac,ag,ah]
      refine ie (by kernel_rfl) (by kernel_rfl) (by kernel_rfl) (fun _ _ h hb=>h.far hb) (fun _ _ _ _=>trivial) (fun _ _=>trivial) (HX.out.drew) ?_;intro x W hE hW hF hD;clear hD;have HB:=Lib.hid (hW rfl).bel;clear hW hF
      try go_wp2
      go_ret2
      exact ⟨by rw[HF.out,h2,h3];rfl,HB.out⟩
theorem iM (x:Nd) (ao:Option Addr) (g cap:Nat) (l:List Int) (w:World) (hr:RowI w ao g l) (hop:1≤x.op∧x.op≤20) (hlen:(arF x.op).1≤l.length):
    Calls prog 112 #[x.val,.slice ao l.length cap] w fun e w'=>e=.returned (.tuple #[.int .i64 (rsF x.op x.sort l).1,.bool (rsF x.op x.sort l).2])∧Below w.heap.size w w':=by
 obtain ⟨op,sort,name,num,kids⟩:=x;unfold Nd.val;simp only at hop hlen ⊢;rcases iL op with (rfl | rfl | rfl | rfl | rfl | rfl | rfl | rfl | rfl | rfl | rfl | rfl | rfl | rfl | rfl | rfl | rfl | rfl | rfl | rfl) | h
 · exact rK (.inl rfl) sort kids name num ao g cap l w hr
 · exact rK (.inr (.inl rfl)) sort kids name num ao g cap l w hr
 · exact rK (.inr (.inr (.inl rfl))) sort kids name num ao g cap l w hr
 · exact rK (.inr (.inr (.inr (.inl rfl)))) sort kids name num ao g cap l w hr
 · exact rK (.inr (.inr (.inr (.inr rfl)))) sort kids name num ao g cap l w hr
 · exact uV (.inl rfl) sort kids name num ao g cap l w hr
 · exact uV (.inr (.inl rfl)) sort kids name num ao g cap l w hr
 · exact uV (.inr (.inr (.inl rfl))) sort kids name num ao g cap l w hr
 · exact uV (.inr (.inr (.inr rfl))) sort kids name num ao g cap l w hr
 · exact Bt sort kids name num ao g cap l w hr (by simp[arF] at hlen;omega)
 · exact Bu sort kids name num ao g cap l w hr (by simp[arF] at hlen;omega)
 · exact yp (.inl rfl) sort kids name num ao g cap l w hr
 · exact yp (.inr rfl) sort kids name num ao g cap l w hr
 · exact yq (.inl rfl) sort kids name num ao g cap l w hr (by simp[arF] at hlen;omega)
 · exact yq (.inr rfl) sort kids name num ao g cap l w hr (by simp[arF] at hlen;omega)
 · exact yo (.inl rfl) sort kids name num ao g cap l w hr (by simp[arF] at hlen;omega)
 · exact yo (.inr rfl) sort kids name num ao g cap l w hr (by simp[arF] at hlen;omega)
 · exact Bv sort kids name num ao g cap l w hr (by simp[arF] at hlen;omega)
 · exact Bw sort kids name num ao g cap l w hr (by simp[arF] at hlen;omega)
 · exact Bx sort kids name num ao g cap l w hr (by simp[arF] at hlen;omega)
 · omega
end Go.Proofs.YtpkfnnkbfphfbaaGreatDoor.Se

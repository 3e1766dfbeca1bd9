import Derived.Test.YtpkfnnkbfphfbaaGreatDoorHUI
set_option maxRecDepth 100000
set_option maxHeartbeats 40000000
open Go.Lib (hid)
namespace Go.Proofs.YtpkfnnkbfphfbaaGreatDoor.Se
open Go.RowKit Nmx Go.Proofs.Tryz
def gZ (sort:Int) (q:Rat):ByteArray:=
 if sort=2 then TX q else if q.den=1 then TX q++⟨#[46,48]⟩
 else (((⟨#[40,47,32]⟩:ByteArray)++TX ((q.num:Int):Rat))++⟨#[46,48,32]⟩++TX (((q.den:Int)):Rat))++⟨#[46,48,41]⟩
def fnT (sort:Int) (q:Rat):ByteArray:=if q.num<0 then ((⟨#[40,45,32]⟩:ByteArray)++gZ sort (-q))++⟨#[41]⟩ else gZ sort q
structure FX (S:Nat) (sort:Int) (q:Rat) (w W:World):Prop where
 srt:W.cell? ⟨S,1,none⟩=some (.int .i64 sort)
 num:W.cell? ⟨S,3,none⟩=some (.string (TX q))
 env:Env W
 lt:S<W.heap.size
 bel:Below S w W
theorem FX.far {S:Nat} {sort:Int} {q:Rat} {w W W':World} (h:FX S sort q w W) (hb:Below W.heap.size W W'):FX S sort q w W':=
 ⟨(hb.cell (p:=⟨S,1,none⟩) h.lt).trans h.srt,(hb.cell (p:=⟨S,3,none⟩) h.lt).trans h.num,h.env.far hb,aC h.lt hb.size,h.bel.trans (hb.mono (aL h.lt))⟩
theorem FX.drew {S:Nat} {sort:Int} {q:Rat} {w W:World} (h:FX S sort q w W):FX S sort q w W.drew:=
 ⟨h.srt,h.num,h.env.far (aZ (am _ _) 1),h.lt,aZ h.bel 1⟩
theorem km {d:Nat} {q:Rat} (hq:DS d q) (hd:d≤2001):(TX q).size≤10000:=by
 have:=hq.len;show (⟨(bB q).toArray⟩:ByteArray).size≤10000;rw[ByteArray.size];simp;omega
theorem js {d:Nat} {q:Rat} (hq:DS d q) (hd:d≤2000) (h0:0≤q.num) (op sort kids:Int) (name:ByteArray) (w:World) (h:Env w):
    Calls prog 118 #[.agg #[.int .i64 op,.int .i64 sort,.string name,.string (TX q),.int .i64 kids]] w fun e w'=>e=.returned (.string (gZ sort q))∧Below w.heap.size w w':=by
 have hb:Below w.heap.size w (w.alloc (.cells #[.int .i64 op,.int .i64 sort,.string name,.string (TX q),.int .i64 kids] 57)):=(am _ _).alloc (aj _) _;have HX:Hid (FX w.heap.size sort q w (w.alloc (.cells #[.int .i64 op,.int .i64 sort,.string name,.string (TX q),.int .i64 kids] 57))):=hid ⟨by rw[World.cell?_alloc_at _ _ _ _ rfl];rfl,by rw[World.cell?_alloc_at _ _ _ _ rfl];rfl,h.far hb,by simp,hb⟩;have HP:Hid (gZ sort q=if sort=2 then TX q else if q.den=1 then TX q++⟨#[46,48]⟩ else (((⟨#[40,47,32]⟩:ByteArray)++TX ((q.num:Int):Rat))++⟨#[46,48,32]⟩++TX (((q.den:Int)):Rat))++⟨#[46,48,41]⟩):=hid rfl;have HQ:=hid hq;have HD:=hid hd;have hsg:¬dd q.num<0:=by unfold dd;split <;> first | omega | (split <;> omega)
 have hl1:=km hq (by omega);have hl2:=km hq.num (by omega);have hl3:=km hq.den (by omega);generalize hS:w.heap.size=S at *;have HS:=hid hS;clear h hb hS hq hd
 go_enter func118,ntmps118
 go_wp2_with fail
 rw[HS.out];generalize w.alloc (.cells #[.int .i64 op,.int .i64 sort,.string name,.string (TX q),.int .i64 kids] 57)=w1 at *;refine (rg HQ.out (by have:=HD.out;omega) w1 HX.out.env).mono ?_;rintro e w2 ⟨rfl,hb2⟩;generalize dd q.num=sg at *;have HX2:=hid (HX.out.far hb2);clear hb2 HX;have c1:=HX2.out.srt;have c3:=HX2.out.num
 by_cases s2:sort=2
 · have HN:Hid (gZ sort q=TX q):=hid (by rw[HP.out,aF s2]);subst s2
   go_wp2
   go_ret
   exact ⟨by rw[HN.out];rfl,HX2.out.bel⟩
 · have e2:(sort==2)=false:=by simp[s2]
   have hi:=oD HQ.out (by have:=HD.out;omega) w2 HX2.out.env
   by_cases hdn:q.den=1
   · have HN:Hid (gZ sort q=TX q++⟨#[46,48]⟩):=hid (by rw[HP.out,aB s2,aF hdn]);rw[aH hdn] at hi
     go_wp2_with fail
     refine hi.mono ?_;rintro e w3 ⟨rfl,hb3⟩;have HX3:=hid (HX2.out.far hb3);clear hb3 c1 c3;have c3:=HX3.out.num
     go_wp2
     go_ret
     exact ⟨by rw[HN.out];rfl,HX3.out.bel⟩
   · have HN:Hid (gZ sort q=(((⟨#[40,47,32]⟩:ByteArray)++TX ((q.num:Int):Rat))++⟨#[46,48,32]⟩++TX (((q.den:Int)):Rat))++⟨#[46,48,41]⟩):=hid (by rw[HP.out,aB s2,aB hdn]);rw[aD hdn] at hi
     go_wp2_with fail
     refine hi.mono ?_;rintro e w3 ⟨rfl,hb3⟩;have HX3:=hid (HX2.out.far hb3);clear hb3 c1 c3
     go_wp2
     refine cF [[],[0],[0,1],[0,1,2],[0,1,2,3],[],[5],[0,1,2,5,6],[0,1,2,3,4,5,6,7],[0,1,2,3,4,5,6,7,8],[0,1,2,3,4,5,6,7,8,9]] (fun W=>FX S sort q w W) (fun _=>True) ?_
     iterate 2
      apply bz
      · intro x;go_simp;done
      · intro x W R hW hF hR;have c3:=hW.num;clear hF;unfold aR
        go_simp
        simp only[aJ];exact hR _ (am _ _)
      simp only[Act.put,ac,ag,ah]
     apply bz
     · intro x;go_simp;done
     · intro x W R hW hF hR;have c3:=hW.num;clear hF;unfold aR
       go_simp
       simp only[aJ];refine (zz HQ.out (by have:=HD.out;omega) W hW.env).mono ?_;rintro e w4 ⟨rfl,hb4⟩;exact ⟨_,rfl,hR _ hb4⟩
     simp only[Act.put,ac,ag,ah];apply bz
     · intro x;go_simp;done
     · intro x W R hW hF hR;have c3:=hW.num;clear hF;unfold aR
       go_simp
       simp only[aJ]
       first | rw[aB (by omega)] | (simp only[ByteArray.size_append];rw[aB (by simp;omega)])
       exact hR _ (am _ _)
     simp only[Act.put,ac,ag,ah];apply bz
     · intro x;go_simp;done
     · intro x W R hW hF hR;have c3:=hW.num;clear hF;unfold aR
       go_simp
       simp only[aJ]
       first | rw[aB (by omega)] | (simp only[ByteArray.size_append];rw[aB (by simp;omega)])
       exact hR _ (am _ _)
     simp only[Act.put,ac,ag,ah]
     iterate 2
      apply bz
      · intro x;go_simp;done
      · intro x W R hW hF hR;have c3:=hW.num;clear hF;unfold aR
        go_simp
        simp only[aJ];exact hR _ (am _ _)
      simp only[Act.put,ac,ag,ah]
     apply bz
     · intro x;go_simp;done
     · intro x W R hW hF hR;have c3:=hW.num;clear hF;unfold aR
       go_simp
       simp only[aJ];refine (zA HQ.out (by have:=HD.out;omega) W hW.env).mono ?_;rintro e w4 ⟨rfl,hb4⟩;exact ⟨_,rfl,hR _ hb4⟩
     simp only[Act.put,ac,ag,ah];apply bz
     · intro x;go_simp;done
     · intro x W R hW hF hR;have c3:=hW.num;clear hF;unfold aR
       go_simp
       simp only[aJ]
       first | rw[aB (by omega)] | (simp only[ByteArray.size_append];rw[aB (by simp;omega)])
       exact hR _ (am _ _)
     simp only[Act.put,ac,ag,ah];apply bz
     · intro x;go_simp;done
     · intro x W R hW hF hR;have c3:=hW.num;clear hF;unfold aR
       go_simp
       simp only[aJ]
       first | rw[aB (by omega)] | (simp only[ByteArray.size_append];rw[aB (by simp;omega)])
       exact hR _ (am _ _)
     simp only[Act.put,ac,ag,ah];apply bz
     · intro x;go_simp;done
     · intro x W R hW hF hR;have c3:=hW.num;clear hF;unfold aR
       go_simp
       simp only[aJ];exact hR _ (am _ _)
     simp only[Act.put,ac,ag,ah];refine ie (by kernel_rfl) (by kernel_rfl) (by kernel_rfl) (fun _ _ h hb=>h.far hb) (fun _ _ _ _=>trivial) (fun _ _=>trivial) (HX3.out.drew) ?_;intro x W hE hW hF hD;clear hD;have HB:=hid (hW rfl).bel;clear hW hF
     try go_wp2
     go_ret
     exact ⟨by rw[HN.out];rfl,HB.out⟩
theorem lf {d:Nat} {q:Rat} (hq:DS d q) (hd:d≤2000) (sort:Int):(gZ sort q).size≤40000:=by
 have hl1:=km hq (by omega);have hl2:=km hq.num (by omega);have hl3:=km hq.den (by omega);unfold gZ
 split
 · omega
 · split
   · rw[ByteArray.size_append,show (⟨#[46,48]⟩:ByteArray).size=2 from rfl];omega
   · simp only[ByteArray.size_append];rw[show (⟨#[40,47,32]⟩:ByteArray).size=3 from rfl,show (⟨#[46,48,32]⟩:ByteArray).size=3 from rfl,show (⟨#[46,48,41]⟩:ByteArray).size=3 from rfl];omega
theorem jt {d:Nat} {q:Rat} (hq:DS d q) (hd:d≤2000) (op sort kids:Int) (name:ByteArray) (w:World) (h:Env w):
    Calls prog 118 #[.agg #[.int .i64 op,.int .i64 sort,.string name,.string (TX q),.int .i64 kids]] w fun e w'=>e=.returned (.string (fnT sort q))∧Below w.heap.size w w':=by
 by_cases hneg:q.num<0
 · have hb:Below w.heap.size w (w.alloc (.cells #[.int .i64 op,.int .i64 sort,.string name,.string (TX q),.int .i64 kids] 57)):=(am _ _).alloc (aj _) _;have hw0:=aq w (.cells #[.int .i64 op,.int .i64 sort,.string name,.string (TX q),.int .i64 kids] 57);have hlt:w.heap.size<(w.alloc (.cells #[.int .i64 op,.int .i64 sort,.string name,.string (TX q),.int .i64 kids] 57)).heap.size:=by simp
   have HE:=hid (h.far hb);have HE0:=hid h;have HB:=hid hb;have HF:Hid (fnT sort q=((⟨#[40,45,32]⟩:ByteArray)++gZ sort (-q))++⟨#[41]⟩):=hid (by unfold fnT;rw[aF hneg]);have hsg:dd q.num<0:=by unfold dd;rw[aF hneg];decide
   have hpl:=lf hq.neg hd sort;have h0:0≤(-q).num:=by show 0≤-q.num;omega
   have HP:=hid fun W (hW:Env W)=>js hq.neg hd h0 op sort kids name W hW
   have HQ:=hid hq;have HD:=hid hd;clear h hb hq hd hneg h0
   go_enter func118,ntmps118
   go_wp2_with fail
   generalize w.alloc (.cells #[.int .i64 op,.int .i64 sort,.string name,.string (TX q),.int .i64 kids] 57)=w1 at *;generalize hS:w.heap.size=S at *;have HS:=hid hS;clear hS;refine (rg HQ.out (by have:=HD.out;omega) w1 HE.out).mono ?_;rintro e w2 ⟨rfl,hb2⟩;generalize dd q.num=sg at *;have hw2:=(hb2.block _ hlt).trans hw0;have hlt2:=aC hlt hb2.size;have HE2:=hid (HE.out.far hb2);have HB2:=hid (HB.out.trans (hb2.mono (aL hlt)));have c3:=aa hw2 3;clear hb2
   go_wp2_with fail
   refine (zx HQ.out (by have:=HD.out;omega) w2 HE2.out).mono ?_;rintro e w3 ⟨rfl,hb3⟩;have hw3:=(hb3.block _ hlt2).trans hw2;have hlt3:=aC hlt2 hb3.size;have HE3:=hid (HE2.out.far hb3);have HB3:=hid (HB2.out.trans (hb3.mono (aL hlt2)));clear hb3 c3;have d3:=aa hw3 3;have fz:=aK hw3 3;have hw4:=heap_set hw3 3 (.string (TX (-q)));have s0:(w3.setCell ⟨S,3,none⟩ (.string (TX (-q)))).cell? ⟨S,0,none⟩=some (.int .i64 op):=aa hw4 0;have s1:(w3.setCell ⟨S,3,none⟩ (.string (TX (-q)))).cell? ⟨S,1,none⟩=some (.int .i64 sort):=aa hw4 1;have s2:(w3.setCell ⟨S,3,none⟩ (.string (TX (-q)))).cell? ⟨S,2,none⟩=some (.string name):=aa hw4 2;have s3:(w3.setCell ⟨S,3,none⟩ (.string (TX (-q)))).cell? ⟨S,3,none⟩=some (.string (TX (-q))):=aa hw4 3;have s4:(w3.setCell ⟨S,3,none⟩ (.string (TX (-q)))).cell? ⟨S,4,none⟩=some (.int .i64 kids):=aa hw4 4;have HB4:Hid (Below S w (w3.setCell ⟨S,3,none⟩ (.string (TX (-q))))):=hid (HB3.out.setCell (show S≤S from aj _) _);have HE4:Hid (Env (w3.setCell ⟨S,3,none⟩ (.string (TX (-q))))):=hid (HE0.out.far (by rw[HS.out];exact HB4.out));clear hw4 hw3 hw2 hw0
   go_wp2_with fail
   have hp:=HP.out _ HE4.out;have hle:S≤(w3.setCell ⟨S,3,none⟩ (.string (TX (-q)))).heap.size:=aP (aL hlt3) (by simp[World.setCell]);generalize w3.setCell ⟨S,3,none⟩ (.string (TX (-q)))=w4 at *;refine hp.mono ?_;rintro e w5 ⟨rfl,hb5⟩;have HB5:=hid (HB4.out.trans (hb5.mono hle));clear hb5 hp;generalize hpt:gZ sort (-q)=pt at *
   go_wp2
   go_ret
   exact ⟨by rw[HF.out];rfl,by rw[HS.out];exact HB5.out⟩
 · have HF:fnT sort q=gZ sort q:=by unfold fnT;rw[aB hneg]
   rw[HF];exact js hq hd (by omega) op sort kids name w h
end Go.Proofs.YtpkfnnkbfphfbaaGreatDoor.Se

import Derived.Test.YtpkfnnkbfphfbaaGreatDoorHNN
set_option maxRecDepth 100000
set_option maxHeartbeats 40000000
open Go.Lib (hid)
namespace Go.Proofs.YtpkfnnkbfphfbaaGreatDoor
open Go.RowKit Nmx Go.Proofs.Tryz
theorem pB {a b q r:Int} (hb:b≠0) (e:q*b+r=a) (hr:0≤r) (hl:r<b.natAbs):a / b=q∧a % b=r:=by
 have e2:a=r+b*q:=by rw[←e,Int.mul_comm];omega
 have e3:r / b=0∧r % b=r:=by
  rcases Int.lt_or_gt_of_ne hb with hn | hp
  · have:r / (-b)=0:=Int.ediv_eq_zero_of_lt hr (by omega);have h4:r % (-b)=r:=Int.emod_eq_of_lt hr (by omega);rw[Int.ediv_neg] at this;rw[Int.emod_neg] at h4;exact ⟨by omega,h4⟩
  · exact ⟨Int.ediv_eq_zero_of_lt hr (by omega),Int.emod_eq_of_lt hr (by omega)⟩
 rw[e2];refine ⟨?_,?_⟩
 · rw[Int.add_mul_ediv_left _ _ hb,e3.1,Int.zero_add]
 · rw[Int.add_mul_emod_self_left,e3.2]
theorem rc {a b:Int} (hb:b≠0):
    ((¬a<0∨a.natAbs % b.natAbs=0)→a / b=sgn (decide (a<0) !=decide (b<0)) (a.natAbs / b.natAbs)∧a % b=((a.natAbs % b.natAbs:Nat):Int))∧
    ((a<0∧a.natAbs % b.natAbs≠0∧b<0)→a / b=sgn (decide (a<0) !=decide (b<0)) (a.natAbs / b.natAbs)+1∧a % b=(b.natAbs:Int)-((a.natAbs % b.natAbs:Nat):Int))∧
    ((a<0∧a.natAbs % b.natAbs≠0∧¬b<0)→a / b=sgn (decide (a<0) !=decide (b<0)) (a.natAbs / b.natAbs)-1∧a % b=(b.natAbs:Int)-((a.natAbs % b.natAbs:Nat):Int)):=by
 have hm:=Nat.div_add_mod a.natAbs b.natAbs;have hl:=Nat.mod_lt a.natAbs (show 0<b.natAbs by omega);obtain ⟨Y,hY⟩:∃Y:Nat,b.natAbs=Y:=⟨_,rfl⟩
 obtain ⟨X,hX⟩:∃X:Nat,a.natAbs=X:=⟨_,rfl⟩
 rw[hX,hY] at hm hl ⊢;generalize X / Y=t at *;generalize X % Y=m at *;have hYb:b=if b<0 then -(Y:Int) else Y:=by split <;> omega
 have hXa:a=if a<0 then -((Y*t+m:Nat):Int) else ((Y*t+m:Nat):Int):=by rw[hm];split <;> omega
 rw[Int.natCast_add,Int.natCast_mul] at hXa;refine ⟨fun h=>?_,fun h=>?_,fun h=>?_⟩
 · refine pB hb ?_ (by omega) (by omega)
   by_cases hb2:b<0 <;> by_cases ha2:a<0
   · rw[aF hb2] at hYb;rw[aF ha2] at hXa;rw[aH hb2,aH ha2];have:m=0:=by omega
     simp only[sgn,bne_self_eq_false,Bool.false_eq_true,if_false];rw[hYb,hXa];grind
   · rw[aF hb2] at hYb;rw[aB ha2] at hXa;rw[aH hb2,aD ha2];simp only[sgn,Bool.false_bne,if_true];rw[hYb,hXa];grind
   · rw[aB hb2] at hYb;rw[aF ha2] at hXa;rw[aD hb2,aH ha2];have:m=0:=by omega
     simp only[sgn,Bool.bne_false,if_true];rw[hYb,hXa];grind
   · rw[aB hb2] at hYb;rw[aB ha2] at hXa;rw[aD hb2,aD ha2];simp only[sgn,bne_self_eq_false,Bool.false_eq_true,if_false];rw[hYb,hXa];grind
 · obtain ⟨h1,h2,h3⟩:=h;refine pB hb ?_ (by omega) (by omega);rw[aF h3] at hYb;rw[aF h1] at hXa;rw[aH h3,aH h1];simp only[sgn,bne_self_eq_false,Bool.false_eq_true,if_false];rw[hYb,hXa];grind
 · obtain ⟨h1,h2,h3⟩:=h;refine pB hb ?_ (by omega) (by omega);rw[aB h3] at hYb;rw[aF h1] at hXa;rw[aD h3,aH h1];simp only[sgn,Bool.bne_false,if_true];rw[hYb,hXa];grind
structure QR0 (w wx:World) (y0 y1 y2:Value):Prop where
 hb:wx.heap[w.heap.size+1]? =some (.cells #[y0,y1,y2] 73 (0,0))
 h1:wx.heap[w.heap.size+2]? =some (.cells #[.int .i64 0,.bool false,.slice none 0 0] 73 (0,0))
 h2:wx.heap[w.heap.size+3]? =some (.cells #[.int .i64 0,.bool false,.slice none 0 0] 73 (0,0))
 bel:Below w.heap.size w wx
theorem QR0.far {w wx w1:World} {y0 y1 y2:Value} (h:QR0 w wx y0 y1 y2) (hb:Below wx.heap.size wx w1):QR0 w w1 y0 y1 y2:=
 ⟨(hb.block _ (ar h.hb)).trans h.hb,(hb.block _ (ar h.h1)).trans h.h1,(hb.block _ (ar h.h2)).trans h.h2,h.bel.trans (hb.mono h.bel.size)⟩
theorem QR0.new (w:World) (o:Obj) (y0 y1 y2:Value) (o2 o3:Obj) (e2:o2=.cells #[.int .i64 0,.bool false,.slice none 0 0] 73) (e3:o3=.cells #[.int .i64 0,.bool false,.slice none 0 0] 73):
    QR0 w ((((w.alloc o).alloc (.cells #[y0,y1,y2] 73)).alloc o2).alloc o3) y0 y1 y2:=by
 subst e2 e3;refine ⟨?_,(dL w _ _ _ _).2,(dL w _ _ _ _).1,pi w _ _ _ _⟩;rw[Below.heap_alloc _ _ _ (by simp),Below.heap_alloc _ _ _ (by simp)];exact bM w o _
theorem QR0.cells {w wx:World} {y0 y1 y2:Value} (h:QR0 w wx y0 y1 y2):wx.cell? ⟨w.heap.size+1,0,none⟩=some y0∧wx.cell? ⟨w.heap.size+1,1,none⟩=some y1∧wx.cell? ⟨w.heap.size+1,2,none⟩=some y2:=
 ⟨aa h.hb 0,aa h.hb 1,aa h.hb 2⟩
structure QRS (w wx:World) (G H:Nat) (y0 y1 y2 q0 q1 q2 r0 r1 r2:Value):Prop where
 qr:QR0 w wx y0 y1 y2
 hq:wx.heap[G]? =some (.cells #[q0,q1,q2] 73 (0,0))
 hr:wx.heap[H]? =some (.cells #[r0,r1,r2] 73 (0,0))
 ne:G<H
 fa:w.heap.size+3<G
theorem QRS.far {w wx w1:World} {G H:Nat} {y0 y1 y2 q0 q1 q2 r0 r1 r2:Value} (h:QRS w wx G H y0 y1 y2 q0 q1 q2 r0 r1 r2) (hb:Below wx.heap.size wx w1):QRS w w1 G H y0 y1 y2 q0 q1 q2 r0 r1 r2:=
 ⟨h.qr.far hb,(hb.block _ (ar h.hq)).trans h.hq,(hb.block _ (ar h.hr)).trans h.hr,h.ne,h.fa⟩
theorem QR0.drewN {w wx:World} {y0 y1 y2:Value} (h:QR0 w wx y0 y1 y2) (n:Nat):QR0 w (wx.drewN n) y0 y1 y2:=⟨h.hb,h.h1,h.h2,aW h.bel n⟩
theorem QRS.drewN {w wx:World} {G H:Nat} {y0 y1 y2 q0 q1 q2 r0 r1 r2:Value} (h:QRS w wx G H y0 y1 y2 q0 q1 q2 r0 r1 r2) (n:Nat):QRS w (wx.drewN n) G H y0 y1 y2 q0 q1 q2 r0 r1 r2:=⟨h.qr.drewN n,h.hq,h.hr,h.ne,h.fa⟩
theorem QRS.new {w wx:World} {y0 y1 y2:Value} (q0 q1 q2 r0 r1 r2:Value) (h:QR0 w wx y0 y1 y2):QRS w ((wx.alloc (.cells #[q0,q1,q2] 73)).alloc (.cells #[r0,r1,r2] 73)) wx.heap.size (wx.heap.size+1) y0 y1 y2 q0 q1 q2 r0 r1 r2:=by
 refine ⟨h.far ((am _ _).alloc (aj _) _ |>.alloc (by simp) _),?_,bM wx _ _,by omega,ar h.h2⟩;rw[Below.heap_alloc _ _ _ (by simp)];exact aq wx _
theorem QRS.cells {w wx:World} {G H:Nat} {y0 y1 y2 q0 q1 q2 r0 r1 r2:Value} (h:QRS w wx G H y0 y1 y2 q0 q1 q2 r0 r1 r2):(wx.cell? ⟨w.heap.size+1,0,none⟩=some y0∧wx.cell? ⟨w.heap.size+1,1,none⟩=some y1∧wx.cell? ⟨w.heap.size+1,2,none⟩=some y2)∧(wx.cell? ⟨G,0,none⟩=some q0∧wx.cell? ⟨G,1,none⟩=some q1∧wx.cell? ⟨G,2,none⟩=some q2)∧(wx.cell? ⟨H,0,none⟩=some r0∧wx.cell? ⟨H,1,none⟩=some r1∧wx.cell? ⟨H,2,none⟩=some r2)∧(∀i,wx.frozen? ⟨G,i,none⟩=false)∧(∀i,wx.frozen? ⟨H,i,none⟩=false):=
 ⟨h.qr.cells,⟨aa h.hq 0,aa h.hq 1,aa h.hq 2⟩,⟨aa h.hr 0,aa h.hr 1,aa h.hr 2⟩,fun i=>aK h.hq i,fun i=>aK h.hr i⟩
theorem QRS.setQ {w wx:World} {G H:Nat} {y0 y1 y2 q0 q1 q2 r0 r1 r2:Value} (h:QRS w wx G H y0 y1 y2 q0 q1 q2 r0 r1 r2) (x y z:Value):QRS w (((wx.setCell ⟨G,0,none⟩ x).setCell ⟨G,1,none⟩ y).setCell ⟨G,2,none⟩ z) G H y0 y1 y2 x y z r0 r1 r2:=by
 have h1:=h.ne;have h2:=h.fa;refine ⟨⟨?_,?_,?_,?_⟩,je h.hq,?_,h1,h2⟩
 · rw[cJ _ _ _ (by omega)];exact h.qr.hb
 · rw[cJ _ _ _ (by omega)];exact h.qr.h1
 · rw[cJ _ _ _ (by omega)];exact h.qr.h2
 · exact ((h.qr.bel.setCell (show w.heap.size≤(⟨G,0,none⟩:Addr).block by show _≤G;omega) _).setCell (show w.heap.size≤(⟨G,1,none⟩:Addr).block by show _≤G;omega) _).setCell (show w.heap.size≤(⟨G,2,none⟩:Addr).block by show _≤G;omega) _
 · rw[cJ _ _ _ (by omega)];exact h.hr
theorem QRS.setR {w wx:World} {G H:Nat} {y0 y1 y2 q0 q1 q2 r0 r1 r2:Value} (h:QRS w wx G H y0 y1 y2 q0 q1 q2 r0 r1 r2) (x y z:Value):QRS w (((wx.setCell ⟨H,0,none⟩ x).setCell ⟨H,1,none⟩ y).setCell ⟨H,2,none⟩ z) G H y0 y1 y2 q0 q1 q2 x y z:=by
 have h1:=h.ne;have h2:=h.fa;refine ⟨⟨?_,?_,?_,?_⟩,?_,je h.hr,h1,h2⟩
 · rw[cJ _ _ _ (by omega)];exact h.qr.hb
 · rw[cJ _ _ _ (by omega)];exact h.qr.h1
 · rw[cJ _ _ _ (by omega)];exact h.qr.h2
 · exact ((h.qr.bel.setCell (show w.heap.size≤(⟨H,0,none⟩:Addr).block by show _≤H;omega) _).setCell (show w.heap.size≤(⟨H,1,none⟩:Addr).block by show _≤H;omega) _).setCell (show w.heap.size≤(⟨H,2,none⟩:Addr).block by show _≤H;omega) _
 · rw[cJ _ _ _ (by omega)];exact h.hq
theorem QRS.drew {w wx:World} {G H:Nat} {y0 y1 y2 q0 q1 q2 r0 r1 r2:Value} (h:QRS w wx G H y0 y1 y2 q0 q1 q2 r0 r1 r2):QRS w wx.drew G H y0 y1 y2 q0 q1 q2 r0 r1 r2:=⟨⟨h.qr.hb,h.qr.h1,h.qr.h2,h.qr.bel.drew⟩,h.hq,h.hr,h.ne,h.fa⟩
theorem kY {z:Int} {n:Nat} (h:Fit z) (hn:n≤z.natAbs) {y:Int} (hy:y.natAbs=n):Fit y:=by
 unfold Fit at *;rw[hy];exact Nat.lt_of_le_of_lt hn h
theorem zp (b:Bool) (n:Nat):(sgn b n).natAbs=n:=by
 cases b
 · show ((n:Nat):Int).natAbs=n;exact Int.natAbs_natCast n
 · show (-((n:Nat):Int)).natAbs=n;rw[Int.natAbs_neg];exact Int.natAbs_natCast n
theorem uS:Fit 1:=kV (k:=1) (by rw[Nat.pow_one,bj];decide) (by omega)
theorem IV.drewN {w:World} {v:Value} {z:Int} (h:IV w v z) (n:Nat):IV (w.drewN n) v z:=h.far (aW (am _ _) n)
theorem IV.drew {w:World} {v:Value} {z:Int} (h:IV w v z):IV w.drew v z:=h.far (am _ _).drew
theorem jF:
    (∀{za zb:Int} {b1 b2:Bool} {ad1 ad2:Addr} {n1 c1 n2 c2:Nat} (w:World) (_:IV w (.agg #[.int .i64 0,.bool b1,.slice (some ad1) n1 c1]) za) (_:IV w (.agg #[.int .i64 0,.bool b2,.slice (some ad2) n2 c2]) zb) (_:Fit za) (_:Fit zb) (_:zb≠0),Calls prog 127 #[.agg #[.int .i64 0,.bool b1,.slice (some ad1) n1 c1],.agg #[.int .i64 0,.bool b2,.slice (some ad2) n2 c2]] w (kN za zb w))∧
    (∀{za zb:Int} {s2:Int} {b1 b2:Bool} {ad1:Addr} {n1 c1:Nat} (w:World) (_:IV w (.agg #[.int .i64 0,.bool b1,.slice (some ad1) n1 c1]) za) (_:IV w (.agg #[.int .i64 s2,.bool b2,.slice none 0 0]) zb) (_:Fit za) (_:Fit zb) (_:zb≠0),Calls prog 127 #[.agg #[.int .i64 0,.bool b1,.slice (some ad1) n1 c1],.agg #[.int .i64 s2,.bool b2,.slice none 0 0]] w (kN za zb w))∧
    (∀{za zb:Int} {s1:Int} {b1 b2:Bool} {ad2:Addr} {n2 c2:Nat} (w:World) (_:IV w (.agg #[.int .i64 s1,.bool b1,.slice none 0 0]) za) (_:IV w (.agg #[.int .i64 0,.bool b2,.slice (some ad2) n2 c2]) zb) (_:Fit za) (_:Fit zb) (_:zb≠0),Calls prog 127 #[.agg #[.int .i64 s1,.bool b1,.slice none 0 0],.agg #[.int .i64 0,.bool b2,.slice (some ad2) n2 c2]] w (kN za zb w)):=by
 refine ⟨?g1,?g2,?g3⟩
 focus
  intro za zb b1 b2 ad1 ad2 n1 c1 n2 c2 w ha hb fa fb h0
 rotate_left
 focus
  intro za zb s2 b1 b2 ad1 n1 c1 w ha hb fa fb h0
 rotate_left
 focus
  intro za zb s1 b1 b2 ad2 n2 c2 w ha hb fa fb h0
 rotate_left
 all_goals
  have kq:=cB;have kq0:=bJ;obtain ⟨d1,d2,d3⟩:=rc (a:=za) h0;have D1:=hid d1;have D2:=hid d2;have D3:=hid d3;have FA:=hid fa;have FB:=hid fb;have H0:=hid h0;have hpa:=fun (W':World) (hB:Below w.heap.size w W')=>bd _ _ W' (ha.far hB)
  have hpb:=fun (W':World) (hB:Below w.heap.size w W')=>bd _ _ W' (hb.far hB)
  have HYV:=hid hb
 focus
  have HS0:=hid (QR0.new w (.cells #[.int .i64 0,.bool b1,.slice (some ad1) n1 c1] 73) (.int .i64 0) (.bool b2) (.slice (some ad2) n2 c2) _ _ rfl rfl)
 rotate_left
 focus
  have HS0:=hid (QR0.new w (.cells #[.int .i64 0,.bool b1,.slice (some ad1) n1 c1] 73) (.int .i64 s2) (.bool b2) (.slice none 0 0) _ _ rfl rfl)
 rotate_left
 focus
  have HS0:=hid (QR0.new w (.cells #[.int .i64 s1,.bool b1,.slice none 0 0] 73) (.int .i64 0) (.bool b2) (.slice (some ad2) n2 c2) _ _ rfl rfl)
 rotate_left
 all_goals
  have hf1:=fun W=>jp 1 W (by omega) (by omega)
  clear ha hb fa fb d1 d2 d3 h0
  go_enter func127,ntmps127
  go_wp2_with fail
  refine (hpa _ HS0.out.bel).mono ?_;rintro e w1 ⟨va',la,rfl,hva,hna,hla,-,hb1⟩;have HS1:=hid (HS0.out.far hb1);have hlla:=gR hna hla FA.out;obtain ⟨y0,y1,y2⟩:=HS1.out.cells;have HVA:=hid hva;have HNA:=hid hna;have HLA:=hid hla;clear hb1 hva hna hla hpa HS0
  go_wp2_with fail
  refine (hpb _ HS1.out.bel).mono ?_;rintro e w2 ⟨vb',lb,rfl,hvb,hnb,hlb,-,hb2⟩;have HS2:=hid (HS1.out.far hb2);have HVA2:=hid (HVA.out.far hb2);have HVB:=hid hvb;have HNB:=hid hnb;have HLB:=hid hlb
  have hbne:lb≠[]:=by
   intro e;have:=HLB.out;have:=H0.out;rw[e,dh] at *
   omega
  have hdv:=pA va' vb' la lb w2 HVA2.out HVB.out HNA.out HNB.out (by omega) hbne;clear hb2 hvb hnb hlb hpb HS1 HVA y0 y1 y2 hbne
  go_wp2_with fail
  refine hdv.mono ?_;rintro e w3 ⟨v3,v4,l3,l4,rfl,hv3,hv4,hw3,hw4,hl3,hl4,hb3⟩;have HS3:=hid (HS2.out.far hb3);have hfq:=cr (decide (za<0) !=decide (zb<0)) v3 l3 w3 hv3 (by omega);have hfr:=fun (W:World) (hW:Below w3.heap.size w3 W)=>cr false v4 l4 W (hv4.far hW) (by omega)
  have HW3:=hid hw3;have HW4:=hid hw4;clear hb3 hv3 hw3 hv4 hw4 hdv HS2
  go_wp2_with fail
  refine hfq.mono ?_;rintro e w4 ⟨v6,rfl,hv6,hb4⟩;have HS4:=hid (HS3.out.far hb4);have HQ0:=hid hv6;obtain ⟨s6,b6,a6,n6,c6,rfl⟩:=aY hv6;have hfr4:=hfr w4 hb4;clear hv6 hb4 hfq hfr HS3
  go_wp2_with fail
  refine hfr4.mono ?_;rintro e w5 ⟨v7,rfl,hv7,hb5⟩;have HS5:=hid (HS4.out.far hb5);have HQ5:=hid (HQ0.out.far hb5);have HR5:=hid hv7;obtain ⟨s7,b7,a7,n7,c7,rfl⟩:=aY hv7;have hlt5:=HS5.out.bel.size;have HS:=hid (QRS.new (.int .i64 s6) (.bool b6) (.slice a6 n6 c6) (.int .i64 s7) (.bool b7) (.slice a7 n7 c7) HS5.out);have hal:Below w5.heap.size w5 ((w5.alloc (.cells #[.int .i64 s6,.bool b6,.slice a6 n6 c6] 73)).alloc (.cells #[.int .i64 s7,.bool b7,.slice a7 n7 c7] 73)):=bE w5 _ _;have HQ:=hid (HQ5.out.far hal);have HR:=hid (HR5.out.far hal);have HY:=hid (HYV.out.far HS.out.qr.bel);have EQ:Hid (sgn (decide (za<0) !=decide (zb<0)) (wv l3)=sgn (decide (za<0) !=decide (zb<0)) (za.natAbs / zb.natAbs)):=hid (by rw[HW3.out,HLA.out,HLB.out]);have ER:Hid (sgn false (wv l4)=((za.natAbs % zb.natAbs:Nat):Int)):=hid (by rw[HW4.out,HLA.out,HLB.out];rfl);rw[EQ.out] at HQ;rw[ER.out] at HR;have FQ:Hid (Fit (sgn (decide (za<0) !=decide (zb<0)) (za.natAbs / zb.natAbs))):=hid (kY FA.out (Nat.div_le_self _ _) (zp _ _));have FR:Hid (Fit ((za.natAbs % zb.natAbs:Nat):Int)):=hid (kY FA.out (Nat.mod_le _ _) (Int.natAbs_natCast _));have FY:Hid (Fit (zb.natAbs:Int)):=hid (kY FB.out (aj _) (Int.natAbs_natCast _));clear hv7 hb5 hfr4 HS4 HS5 HQ5 HR5 HQ0 hal HW3 HW4 HLA HLB HNA HNB HVA2 HVB EQ ER FA FB;generalize sgn (decide (za<0) !=decide (zb<0)) (za.natAbs / zb.natAbs)=Q at *
  generalize za.natAbs % zb.natAbs=M at *;have HX:Hid (True):=hid trivial
  by_cases han:za<0
  · have hanb:decide (za<0)=true:=aH han;have HN:=hid han;clear han;obtain ⟨⟨y0,y1,y2⟩,⟨q0,q1,q2⟩,⟨r0,r1,r2⟩,fq,fr⟩:=HS.out.cells
    go_wp2_with fail
    generalize ((w5.alloc (.cells #[.int .i64 s6,.bool b6,.slice a6 n6 c6] 73)).alloc (.cells #[.int .i64 s7,.bool b7,.slice a7 n7 c7] 73))=w6 at *;generalize w5.heap.size+1=H at *;generalize w5.heap.size=G at *;have hiz:=dV _ _ w6 HR.out;have hMz:decide (((M:Nat):Int)=0)=decide (M=0):=by rw[decide_eq_decide];omega
    rw[hMz] at hiz;clear hMz;refine hiz.mono ?_;rintro e w7 ⟨rfl,hb7⟩;have HS7:=hid (HS.out.far hb7);have HQ7:=hid (HQ.out.far hb7);have HR7:=hid (HR.out.far hb7);have HY7:=hid (HY.out.far hb7);clear hiz hb7 y0 y1 y2 q0 q1 q2 r0 r1 r2 fq fr HS HQ HR HY;obtain ⟨⟨y0,y1,y2⟩,⟨q0,q1,q2⟩,⟨r0,r1,r2⟩,fq,fr⟩:=HS7.out.cells
    by_cases hm0:M=0
    · have hmb:decide (M=0)=true:=aH hm0;have HE:=hid (D1.out (.inr hm0));clear hm0
      go_wp2_with fail
      obtain ⟨f0,f1⟩:=(⟨fun i=>aK HS7.out.qr.h1 i,fun i=>aK HS7.out.qr.h2 i⟩:(∀i,w7.frozen? ⟨w.heap.size+2,i,none⟩=false)∧(∀i,w7.frozen? ⟨w.heap.size+3,i,none⟩=false))
      obtain ⟨⟨z0,z1,z2⟩,z3,z4,z5⟩:=(⟨⟨aa HS7.out.qr.h1 0,aa HS7.out.qr.h1 1,aa HS7.out.qr.h1 2⟩,aa HS7.out.qr.h2 0,aa HS7.out.qr.h2 1,aa HS7.out.qr.h2 2⟩:(w7.cell? ⟨w.heap.size+2,0,none⟩=some (.int .i64 0)∧w7.cell? ⟨w.heap.size+2,1,none⟩=some (.bool false)∧w7.cell? ⟨w.heap.size+2,2,none⟩=some (.slice none 0 0))∧w7.cell? ⟨w.heap.size+3,0,none⟩=some (.int .i64 0)∧w7.cell? ⟨w.heap.size+3,1,none⟩=some (.bool false)∧w7.cell? ⟨w.heap.size+3,2,none⟩=some (.slice none 0 0))
      have hfa:=HS7.out.fa;have hne:=HS7.out.ne;have n1:G≠w.heap.size+2:=by omega
      have n2:G≠w.heap.size+3:=by omega
      have n3:H≠w.heap.size+2:=by omega
      have n4:H≠w.heap.size+3:=by omega
      have n5:w.heap.size+2≠w.heap.size+3:=by omega
      go_region
      all_goals go_wp2
      have HSd:=hid HS7.out.drew;have HQd:=hid (IV.drew HQ7.out);have HRd:=hid (IV.drew HR7.out);simp only[←World.setCell_drew];exact gS results127 rfl rfl rfl HSd.out.qr.h1 HSd.out.qr.h2 (by omega) HQd.out HRd.out HE.out.1 HE.out.2 HSd.out.qr.bel (by omega) (by omega)
    · have hmb:decide (M=0)=false:=aD hm0;have HM:=hid hm0;clear hm0
      by_cases hbn:zb<0
      · have hbnb:decide (zb<0)=true:=aH hbn;have HE:=hid (D2.out ⟨HN.out,HM.out,hbn⟩);clear hbn
        go_wp2_with fail
        go_cut [] (fun wx=>∃z0 z1 z2 s9 b9 a9 n9 c9,QRS w wx G H z0 z1 z2 (.int .i64 s9) (.bool b9) (.slice a9 n9 c9) (.int .i64 s7) (.bool b7) (.slice a7 n7 c7)∧IV wx (.agg #[.int .i64 s9,.bool b9,.slice a9 n9 c9]) (Q+1)∧IV wx (.agg #[.int .i64 s7,.bool b7,.slice a7 n7 c7]) ((M:Nat):Int)∧IV wx (.agg #[z0,z1,z2]) zb)
        case first=>
         go_region_with ((first
          | (go_at_call 180
             refine (hf1 _).mono ?_;rintro e w8 ⟨v8,rfl,hv8,hb8⟩;have HS8:=hid ((HS7.out.drewN _).far hb8);obtain ⟨k0,k1,k2⟩:=HS8.out.cells.2.1;have fk:=HS8.out.cells.2.2.2.1;have HQ8:=hid ((IV.drewN HQ7.out _).far hb8);have HR8:=hid ((IV.drewN HR7.out _).far hb8);have HY8:=hid ((IV.drewN HY7.out _).far hb8);have HV8:=hid hv8
             obtain ⟨s8,b8,a8,n8,c8,rfl⟩:=aY hv8)
          | (go_at_call 179
             refine (uG _ _ _ _ _ HQ8.out HV8.out FQ.out uS).mono ?_;rintro e w9 ⟨v9,rfl,hv9,hb9⟩;have HS9:=hid (HS8.out.far hb9);have HR9:=hid (HR8.out.far hb9);have HY9:=hid (HY8.out.far hb9);have HQ9:=hid hv9;obtain ⟨s9,b9,a9,n9,c9,rfl⟩:=aY hv9;obtain ⟨g0,g1,g2⟩:=HS9.out.cells.2.1
             have fg:=HS9.out.cells.2.2.2.1)))
         all_goals
          go_wp2_with fail
          go_meet
          exact ⟨_,_,_,s9,b9,a9,n9,c9,HS9.out.setQ _ _ _,IV.set3 HQ9.out HS9.out.hq _ _ _,IV.set3 HR9.out HS9.out.hq _ _ _,IV.set3 HY9.out HS9.out.hq _ _ _⟩
        case rest=>
         obtain ⟨z0,z1,z2,s9,b9,a9,n9,c9,hs10,hq10,hr10,hy10⟩:=hcut;have HS10:=hid hs10;have HQ10:=hid hq10;have HR10:=hid hr10;have HY10:=hid hy10;clear hs10 hq10 hr10 hy10 y0 y1 y2 q0 q1 q2 r0 r1 r2 fq fr;obtain ⟨⟨y0,y1,y2⟩,⟨q0,q1,q2⟩,⟨r0,r1,r2⟩,fq,fr⟩:=HS10.out.cells
         go_upto_region 16 with fail
         go_cut [] (fun wx=>∃z0 z1 z2 s12 b12 a12 n12 c12,QRS w wx G H z0 z1 z2 (.int .i64 s9) (.bool b9) (.slice a9 n9 c9) (.int .i64 s12) (.bool b12) (.slice a12 n12 c12)∧IV wx (.agg #[.int .i64 s9,.bool b9,.slice a9 n9 c9]) (Q+1)∧IV wx (.agg #[.int .i64 s12,.bool b12,.slice a12 n12 c12]) ((zb.natAbs:Int)-((M:Nat):Int)))
         case first=>
          go_region_with ((first
           | (go_at_call 126
              refine (lO _ _ _ (IV.drewN HY10.out _)).mono ?_;rintro e w11 ⟨v11,rfl,hv11,hb11⟩;have HS11:=hid ((HS10.out.drewN _).far hb11);obtain ⟨k0,k1,k2⟩:=HS11.out.cells.2.2.1;have HQ11:=hid ((IV.drewN HQ10.out _).far hb11);have HR11:=hid ((IV.drewN HR10.out _).far hb11);have HV11:=hid hv11
              obtain ⟨s11,b11,a11,n11,c11,rfl⟩:=aY hv11)
           | (go_at_call 181
              refine (pj _ _ _ _ _ HV11.out HR11.out FY.out FR.out).mono ?_;rintro e w12 ⟨v12,rfl,hv12,hb12⟩;have HS12:=hid (HS11.out.far hb12);have HQ12:=hid (HQ11.out.far hb12);have HR12:=hid hv12;obtain ⟨s12,b12,a12,n12,c12,rfl⟩:=aY hv12;obtain ⟨g0,g1,g2⟩:=HS12.out.cells.2.2.1
              have fg:=HS12.out.cells.2.2.2.2)))
          all_goals
           go_wp2_with fail
           go_meet
           exact ⟨_,_,_,s12,b12,a12,n12,c12,HS12.out.setR _ _ _,IV.set3 HQ12.out HS12.out.hr _ _ _,IV.set3 HR12.out HS12.out.hr _ _ _⟩
         case rest=>
          obtain ⟨z0,z1,z2,s12,b12,a12,n12,c12,hs13,hq13,hr13⟩:=hcut;have HS13:=hid hs13;have HQ13:=hid hq13;have HR13:=hid hr13;clear hs13 hq13 hr13 y0 y1 y2 q0 q1 q2 r0 r1 r2 fq fr;obtain ⟨⟨y0,y1,y2⟩,⟨q0,q1,q2⟩,⟨r0,r1,r2⟩,fq,fr⟩:=HS13.out.cells;have HE2:=hid HE.out.2
          go_wp2_with fail
          obtain ⟨f0,f1⟩:=(⟨fun i=>aK HS13.out.qr.h1 i,fun i=>aK HS13.out.qr.h2 i⟩:(∀i,wc.frozen? ⟨w.heap.size+2,i,none⟩=false)∧(∀i,wc.frozen? ⟨w.heap.size+3,i,none⟩=false))
          obtain ⟨⟨z0,z1,z2⟩,z3,z4,z5⟩:=(⟨⟨aa HS13.out.qr.h1 0,aa HS13.out.qr.h1 1,aa HS13.out.qr.h1 2⟩,aa HS13.out.qr.h2 0,aa HS13.out.qr.h2 1,aa HS13.out.qr.h2 2⟩:(wc.cell? ⟨w.heap.size+2,0,none⟩=some (.int .i64 0)∧wc.cell? ⟨w.heap.size+2,1,none⟩=some (.bool false)∧wc.cell? ⟨w.heap.size+2,2,none⟩=some (.slice none 0 0))∧wc.cell? ⟨w.heap.size+3,0,none⟩=some (.int .i64 0)∧wc.cell? ⟨w.heap.size+3,1,none⟩=some (.bool false)∧wc.cell? ⟨w.heap.size+3,2,none⟩=some (.slice none 0 0))
          have hfa:=HS13.out.fa;have hne:=HS13.out.ne;have n1:G≠w.heap.size+2:=by omega
          have n2:G≠w.heap.size+3:=by omega
          have n3:H≠w.heap.size+2:=by omega
          have n4:H≠w.heap.size+3:=by omega
          have n5:w.heap.size+2≠w.heap.size+3:=by omega
          go_region
          all_goals go_wp2
          have HSd:=hid HS13.out.drew;have HQd:=hid (IV.drew HQ13.out);have HRd:=hid (IV.drew HR13.out);simp only[←World.setCell_drew];exact gS results127 rfl rfl rfl HSd.out.qr.h1 HSd.out.qr.h2 (by omega) HQd.out HRd.out HE.out.1 HE.out.2 HSd.out.qr.bel (by omega) (by omega)
      · have hbnb:decide (zb<0)=false:=aD hbn;have HE:=hid (D3.out ⟨HN.out,HM.out,by omega⟩);clear hbn
        go_wp2_with fail
        go_cut [] (fun wx=>∃z0 z1 z2 s9 b9 a9 n9 c9,QRS w wx G H z0 z1 z2 (.int .i64 s9) (.bool b9) (.slice a9 n9 c9) (.int .i64 s7) (.bool b7) (.slice a7 n7 c7)∧IV wx (.agg #[.int .i64 s9,.bool b9,.slice a9 n9 c9]) (Q-1)∧IV wx (.agg #[.int .i64 s7,.bool b7,.slice a7 n7 c7]) ((M:Nat):Int)∧IV wx (.agg #[z0,z1,z2]) zb)
        case first=>
         go_region_with ((first
          | (go_at_call 180
             refine (hf1 _).mono ?_;rintro e w8 ⟨v8,rfl,hv8,hb8⟩;have HS8:=hid ((HS7.out.drewN _).far hb8);obtain ⟨k0,k1,k2⟩:=HS8.out.cells.2.1;have fk:=HS8.out.cells.2.2.2.1;have HQ8:=hid ((IV.drewN HQ7.out _).far hb8);have HR8:=hid ((IV.drewN HR7.out _).far hb8);have HY8:=hid ((IV.drewN HY7.out _).far hb8);have HV8:=hid hv8
             obtain ⟨s8,b8,a8,n8,c8,rfl⟩:=aY hv8)
          | (go_at_call 181
             refine (pj _ _ _ _ _ HQ8.out HV8.out FQ.out uS).mono ?_;rintro e w9 ⟨v9,rfl,hv9,hb9⟩;have HS9:=hid (HS8.out.far hb9);have HR9:=hid (HR8.out.far hb9);have HY9:=hid (HY8.out.far hb9);have HQ9:=hid hv9;obtain ⟨s9,b9,a9,n9,c9,rfl⟩:=aY hv9;obtain ⟨g0,g1,g2⟩:=HS9.out.cells.2.1
             have fg:=HS9.out.cells.2.2.2.1)))
         all_goals
          go_wp2_with fail
          go_meet
          exact ⟨_,_,_,s9,b9,a9,n9,c9,HS9.out.setQ _ _ _,IV.set3 HQ9.out HS9.out.hq _ _ _,IV.set3 HR9.out HS9.out.hq _ _ _,IV.set3 HY9.out HS9.out.hq _ _ _⟩
        case rest=>
         obtain ⟨z0,z1,z2,s9,b9,a9,n9,c9,hs10,hq10,hr10,hy10⟩:=hcut;have HS10:=hid hs10;have HQ10:=hid hq10;have HR10:=hid hr10;have HY10:=hid hy10;clear hs10 hq10 hr10 hy10 y0 y1 y2 q0 q1 q2 r0 r1 r2 fq fr;obtain ⟨⟨y0,y1,y2⟩,⟨q0,q1,q2⟩,⟨r0,r1,r2⟩,fq,fr⟩:=HS10.out.cells
         go_upto_region 16 with fail
         go_cut [] (fun wx=>∃z0 z1 z2 s12 b12 a12 n12 c12,QRS w wx G H z0 z1 z2 (.int .i64 s9) (.bool b9) (.slice a9 n9 c9) (.int .i64 s12) (.bool b12) (.slice a12 n12 c12)∧IV wx (.agg #[.int .i64 s9,.bool b9,.slice a9 n9 c9]) (Q-1)∧IV wx (.agg #[.int .i64 s12,.bool b12,.slice a12 n12 c12]) ((zb.natAbs:Int)-((M:Nat):Int)))
         case first=>
          go_region_with ((first
           | (go_at_call 126
              refine (lO _ _ _ (IV.drewN HY10.out _)).mono ?_;rintro e w11 ⟨v11,rfl,hv11,hb11⟩;have HS11:=hid ((HS10.out.drewN _).far hb11);obtain ⟨k0,k1,k2⟩:=HS11.out.cells.2.2.1;have HQ11:=hid ((IV.drewN HQ10.out _).far hb11);have HR11:=hid ((IV.drewN HR10.out _).far hb11);have HV11:=hid hv11
              obtain ⟨s11,b11,a11,n11,c11,rfl⟩:=aY hv11)
           | (go_at_call 181
              refine (pj _ _ _ _ _ HV11.out HR11.out FY.out FR.out).mono ?_;rintro e w12 ⟨v12,rfl,hv12,hb12⟩;have HS12:=hid (HS11.out.far hb12);have HQ12:=hid (HQ11.out.far hb12);have HR12:=hid hv12;obtain ⟨s12,b12,a12,n12,c12,rfl⟩:=aY hv12;obtain ⟨g0,g1,g2⟩:=HS12.out.cells.2.2.1
              have fg:=HS12.out.cells.2.2.2.2)))
          all_goals
           go_wp2_with fail
           go_meet
           exact ⟨_,_,_,s12,b12,a12,n12,c12,HS12.out.setR _ _ _,IV.set3 HQ12.out HS12.out.hr _ _ _,IV.set3 HR12.out HS12.out.hr _ _ _⟩
         case rest=>
          obtain ⟨z0,z1,z2,s12,b12,a12,n12,c12,hs13,hq13,hr13⟩:=hcut;have HS13:=hid hs13;have HQ13:=hid hq13;have HR13:=hid hr13;clear hs13 hq13 hr13 y0 y1 y2 q0 q1 q2 r0 r1 r2 fq fr;obtain ⟨⟨y0,y1,y2⟩,⟨q0,q1,q2⟩,⟨r0,r1,r2⟩,fq,fr⟩:=HS13.out.cells;have HE2:=hid HE.out.2
          go_wp2_with fail
          obtain ⟨f0,f1⟩:=(⟨fun i=>aK HS13.out.qr.h1 i,fun i=>aK HS13.out.qr.h2 i⟩:(∀i,wc.frozen? ⟨w.heap.size+2,i,none⟩=false)∧(∀i,wc.frozen? ⟨w.heap.size+3,i,none⟩=false))
          obtain ⟨⟨z0,z1,z2⟩,z3,z4,z5⟩:=(⟨⟨aa HS13.out.qr.h1 0,aa HS13.out.qr.h1 1,aa HS13.out.qr.h1 2⟩,aa HS13.out.qr.h2 0,aa HS13.out.qr.h2 1,aa HS13.out.qr.h2 2⟩:(wc.cell? ⟨w.heap.size+2,0,none⟩=some (.int .i64 0)∧wc.cell? ⟨w.heap.size+2,1,none⟩=some (.bool false)∧wc.cell? ⟨w.heap.size+2,2,none⟩=some (.slice none 0 0))∧wc.cell? ⟨w.heap.size+3,0,none⟩=some (.int .i64 0)∧wc.cell? ⟨w.heap.size+3,1,none⟩=some (.bool false)∧wc.cell? ⟨w.heap.size+3,2,none⟩=some (.slice none 0 0))
          have hfa:=HS13.out.fa;have hne:=HS13.out.ne;have n1:G≠w.heap.size+2:=by omega
          have n2:G≠w.heap.size+3:=by omega
          have n3:H≠w.heap.size+2:=by omega
          have n4:H≠w.heap.size+3:=by omega
          have n5:w.heap.size+2≠w.heap.size+3:=by omega
          go_region
          all_goals go_wp2
          have HSd:=hid HS13.out.drew;have HQd:=hid (IV.drew HQ13.out);have HRd:=hid (IV.drew HR13.out);simp only[←World.setCell_drew];exact gS results127 rfl rfl rfl HSd.out.qr.h1 HSd.out.qr.h2 (by omega) HQd.out HRd.out HE.out.1 HE.out.2 HSd.out.qr.bel (by omega) (by omega)
  · have hanb:decide (za<0)=false:=aD han;have HE:=hid (D1.out (.inl (by omega)));clear han;obtain ⟨⟨y0,y1,y2⟩,⟨q0,q1,q2⟩,⟨r0,r1,r2⟩,fq,fr⟩:=HS.out.cells
    go_wp2_with fail
    generalize ((w5.alloc (.cells #[.int .i64 s6,.bool b6,.slice a6 n6 c6] 73)).alloc (.cells #[.int .i64 s7,.bool b7,.slice a7 n7 c7] 73))=w6 at *;generalize w5.heap.size+1=H at *;generalize w5.heap.size=G at *;obtain ⟨f0,f1⟩:=(⟨fun i=>aK HS.out.qr.h1 i,fun i=>aK HS.out.qr.h2 i⟩:(∀i,w6.frozen? ⟨w.heap.size+2,i,none⟩=false)∧(∀i,w6.frozen? ⟨w.heap.size+3,i,none⟩=false))
    obtain ⟨⟨z0,z1,z2⟩,z3,z4,z5⟩:=(⟨⟨aa HS.out.qr.h1 0,aa HS.out.qr.h1 1,aa HS.out.qr.h1 2⟩,aa HS.out.qr.h2 0,aa HS.out.qr.h2 1,aa HS.out.qr.h2 2⟩:(w6.cell? ⟨w.heap.size+2,0,none⟩=some (.int .i64 0)∧w6.cell? ⟨w.heap.size+2,1,none⟩=some (.bool false)∧w6.cell? ⟨w.heap.size+2,2,none⟩=some (.slice none 0 0))∧w6.cell? ⟨w.heap.size+3,0,none⟩=some (.int .i64 0)∧w6.cell? ⟨w.heap.size+3,1,none⟩=some (.bool false)∧w6.cell? ⟨w.heap.size+3,2,none⟩=some (.slice none 0 0))
    have hfa:=HS.out.fa;have hne:=HS.out.ne;have n1:G≠w.heap.size+2:=by omega
    have n2:G≠w.heap.size+3:=by omega
    have n3:H≠w.heap.size+2:=by omega
    have n4:H≠w.heap.size+3:=by omega
    have n5:w.heap.size+2≠w.heap.size+3:=by omega
    go_region
    all_goals go_wp2
    have HSd:=hid HS.out.drew;have HQd:=hid (IV.drew HQ.out);have HRd:=hid (IV.drew HR.out);simp only[←World.setCell_drew];exact gS results127 rfl rfl rfl HSd.out.qr.h1 HSd.out.qr.h2 (by omega) HQd.out HRd.out HE.out.1 HE.out.2 HSd.out.qr.bel (by omega) (by omega)
theorem tD (x y:Value) (za zb:Int) (w:World) (ha:IV w x za) (hb:IV w y zb) (fa:Fit za) (fb:Fit zb) (h0:zb≠0):Calls prog 127 #[x,y] w (kN za zb w):=by
 have ha':=ha;have hb':=hb;rcases ha with ⟨rfl,h1⟩ | ⟨b1,g1,o1,c1,l1,rfl,h2,h3,h4⟩
 · rcases hb with ⟨rfl,k1⟩ | ⟨b2,g2,o2,c2,l2,rfl,k2,k3,k4⟩
   · exact oo w h1 k1 h0
   · exact jF.2.2 w ha' hb' fa fb h0
 · rcases hb with ⟨rfl,k1⟩ | ⟨b2,g2,o2,c2,l2,rfl,k2,k3,k4⟩
   · exact jF.2.1 w ha' hb' fa fb h0
   · exact jF.1 w ha' hb' fa fb h0
structure GX (w wx:World) (x0 x1 x2 y0 y1 y2:Value):Prop where
 ha:wx.heap[w.heap.size]? =some (.cells #[x0,x1,x2] 73 (0,0))
 hb:wx.heap[w.heap.size+1]? =some (.cells #[y0,y1,y2] 73 (0,0))
 hr:wx.heap[w.heap.size+2]? =some (.cells #[.int .i64 0,.bool false,.slice none 0 0] 73 (0,0))
 bel:Below w.heap.size w wx
theorem GX.far {w wx w1:World} {x0 x1 x2 y0 y1 y2:Value} (h:GX w wx x0 x1 x2 y0 y1 y2) (hb:Below wx.heap.size wx w1):GX w w1 x0 x1 x2 y0 y1 y2:=
 ⟨(hb.block _ (ar h.ha)).trans h.ha,(hb.block _ (ar h.hb)).trans h.hb,(hb.block _ (ar h.hr)).trans h.hr,h.bel.trans (hb.mono h.bel.size)⟩
theorem GX.drewN {w wx:World} {x0 x1 x2 y0 y1 y2:Value} (h:GX w wx x0 x1 x2 y0 y1 y2) (n:Nat):GX w (wx.drewN n) x0 x1 x2 y0 y1 y2:=⟨h.ha,h.hb,h.hr,aW h.bel n⟩
theorem GX.drew {w wx:World} {x0 x1 x2 y0 y1 y2:Value} (h:GX w wx x0 x1 x2 y0 y1 y2):GX w wx.drew x0 x1 x2 y0 y1 y2:=⟨h.ha,h.hb,h.hr,h.bel.drew⟩
theorem GX.new (w:World) (x0 x1 x2 y0 y1 y2:Value) (o2:Obj) (h2:o2=.cells #[.int .i64 0,.bool false,.slice none 0 0] 73):
    GX w (((w.alloc (.cells #[x0,x1,x2] 73)).alloc (.cells #[y0,y1,y2] 73)).alloc o2) x0 x1 x2 y0 y1 y2:=by
 subst h2;obtain ⟨h1,h2,h3⟩:=BU w (.cells #[x0,x1,x2] 73) (.cells #[y0,y1,y2] 73) (.cells #[.int .i64 0,.bool false,.slice none 0 0] 73);exact ⟨h1,h2,h3,eT w _ _ _⟩
theorem GX.cells {w wx:World} {x0 x1 x2 y0 y1 y2:Value} (h:GX w wx x0 x1 x2 y0 y1 y2):(wx.cell? ⟨w.heap.size,0,none⟩=some x0∧wx.cell? ⟨w.heap.size,1,none⟩=some x1∧wx.cell? ⟨w.heap.size,2,none⟩=some x2)∧(wx.cell? ⟨w.heap.size+1,0,none⟩=some y0∧wx.cell? ⟨w.heap.size+1,1,none⟩=some y1∧wx.cell? ⟨w.heap.size+1,2,none⟩=some y2)∧(∀i,wx.frozen? ⟨w.heap.size,i,none⟩=false)∧(∀i,wx.frozen? ⟨w.heap.size+1,i,none⟩=false):=
 ⟨⟨aa h.ha 0,aa h.ha 1,aa h.ha 2⟩,⟨aa h.hb 0,aa h.hb 1,aa h.hb 2⟩,fun i=>aK h.ha i,fun i=>aK h.hb i⟩
theorem GX.res {w wx:World} {x0 x1 x2 y0 y1 y2:Value} (h:GX w wx x0 x1 x2 y0 y1 y2):(wx.cell? ⟨w.heap.size+1+1,0,none⟩=some (.int .i64 0)∧wx.cell? ⟨w.heap.size+1+1,1,none⟩=some (.bool false)∧wx.cell? ⟨w.heap.size+1+1,2,none⟩=some (.slice none 0 0))∧(∀i,wx.frozen? ⟨w.heap.size+1+1,i,none⟩=false):=
 ⟨⟨aa h.hr 0,aa h.hr 1,aa h.hr 2⟩,fun i=>aK h.hr i⟩
theorem GX.setA {w wx:World} {x0 x1 x2 y0 y1 y2:Value} (h:GX w wx x0 x1 x2 y0 y1 y2) (x y z:Value):GX w (((wx.setCell ⟨w.heap.size,0,none⟩ x).setCell ⟨w.heap.size,1,none⟩ y).setCell ⟨w.heap.size,2,none⟩ z) x y z y0 y1 y2:=by
 refine ⟨je h.ha,?_,?_,?_⟩
 · rw[cJ _ _ _ (by omega)];exact h.hb
 · rw[cJ _ _ _ (by omega)];exact h.hr
 · exact ((h.bel.setCell (show w.heap.size≤(⟨w.heap.size,0,none⟩:Addr).block from aj _) _).setCell (show w.heap.size≤(⟨w.heap.size,1,none⟩:Addr).block from aj _) _).setCell (show w.heap.size≤(⟨w.heap.size,2,none⟩:Addr).block from aj _) _
theorem GX.setB {w wx:World} {x0 x1 x2 y0 y1 y2:Value} (h:GX w wx x0 x1 x2 y0 y1 y2) (x y z:Value):GX w (((wx.setCell ⟨w.heap.size+1,0,none⟩ x).setCell ⟨w.heap.size+1,1,none⟩ y).setCell ⟨w.heap.size+1,2,none⟩ z) x0 x1 x2 x y z:=by
 refine ⟨?_,je h.hb,?_,?_⟩
 · rw[cJ _ _ _ (by omega)];exact h.ha
 · rw[cJ _ _ _ (by omega)];exact h.hr
 · exact ((h.bel.setCell (show w.heap.size≤(⟨w.heap.size+1,0,none⟩:Addr).block from Nat.le_succ _) _).setCell (show w.heap.size≤(⟨w.heap.size+1,1,none⟩:Addr).block from Nat.le_succ _) _).setCell (show w.heap.size≤(⟨w.heap.size+1,2,none⟩:Addr).block from Nat.le_succ _) _
theorem mL {w:World} {s:Int} {b:Bool} {ao:Option Addr} {n c:Nat} {z:Int} (h:IV w (.agg #[.int .i64 s,.bool b,.slice ao n c]) z) (hz:¬aV z):∃ad,ao=some ad∧s=0:=by
 rcases h with ⟨h,hs⟩ | ⟨b',g,off,cap,l,h,-,-,-⟩
 · exact absurd hs hz
 · unfold iA at h;simp only[Value.agg.injEq,Array.mk.injEq,List.cons.injEq,Value.int.injEq,Value.slice.injEq,Value.bool.injEq,true_and,and_true] at h;exact ⟨_,h.2.2.1,h.1⟩
def GR (w:World) (g n:Nat) (wr:World):Prop:=∃s1 b1 a1 n1 c1 s2 b2 a2 n2 c2,∃p q:Nat,GX w wr (.int .i64 s1) (.bool b1) (.slice a1 n1 c1) (.int .i64 s2) (.bool b2) (.slice a2 n2 c2)∧IV wr (.agg #[.int .i64 s1,.bool b1,.slice a1 n1 c1]) (p:Int)∧IV wr (.agg #[.int .i64 s2,.bool b2,.slice a2 n2 c2]) (q:Int)∧Nat.gcd p q=g∧Fit (p:Int)∧Fit (q:Int)∧q=n
theorem pC {w wr:World} {g n:Nat} {s1:Int} {b1:Bool} {a1:Option Addr} {n1 c1:Nat} {s2:Int} {b2:Bool} {a2:Option Addr} {n2 c2:Nat} {x0 x1 x2 y0 y1 y2:Value} {p q:Nat} (h:GX w wr x0 x1 x2 y0 y1 y2) (hp:IV wr (.agg #[.int .i64 s1,.bool b1,.slice a1 n1 c1]) (p:Int)) (hq:IV wr (.agg #[.int .i64 s2,.bool b2,.slice a2 n2 c2]) (q:Int)) (hg:Nat.gcd p q=g) (fp:Fit (p:Int)) (fq:Fit (q:Int)) (hn:q=n):
    GR w g n ((((((wr.setCell ⟨w.heap.size,0,none⟩ (.int .i64 s1)).setCell ⟨w.heap.size,1,none⟩ (.bool b1)).setCell ⟨w.heap.size,2,none⟩ (.slice a1 n1 c1)).setCell ⟨w.heap.size+1,0,none⟩ (.int .i64 s2)).setCell ⟨w.heap.size+1,1,none⟩ (.bool b2)).setCell ⟨w.heap.size+1,2,none⟩ (.slice a2 n2 c2)):=by
 have h1:=h.setA (.int .i64 s1) (.bool b1) (.slice a1 n1 c1);have p1:=IV.set3 hp h.ha (.int .i64 s1) (.bool b1) (.slice a1 n1 c1);have q1:=IV.set3 hq h.ha (.int .i64 s1) (.bool b1) (.slice a1 n1 c1);unfold set3 at p1 q1;generalize ((wr.setCell ⟨w.heap.size,0,none⟩ (.int .i64 s1)).setCell ⟨w.heap.size,1,none⟩ (.bool b1)).setCell ⟨w.heap.size,2,none⟩ (.slice a1 n1 c1)=w2 at *;exact ⟨s1,b1,a1,n1,c1,s2,b2,a2,n2,c2,p,q,h1.setB _ _ _,IV.set3 p1 h1.hb _ _ _,IV.set3 q1 h1.hb _ _ _,hg,fp,fq,hn⟩
theorem zq (x y:Value) (za zb:Int) (w:World) (ha:IV w x za) (hb:IV w y zb) (fa:Fit za) (fb:Fit zb):Calls prog 87 #[x,y] w (cD (Int.gcd za zb) w):=by
 have kq:=cB;have kq0:=bJ;have haa:=fun (W:World) (hW:Below w.heap.size w W)=>lO x za W (ha.far hW)
 have hbb:=fun (W:World) (hW:Below w.heap.size w W)=>lO y zb W (hb.far hW)
 obtain ⟨s1,b1,a1,n1,c1,rfl⟩:=aY ha;obtain ⟨s2,b2,a2,n2,c2,rfl⟩:=aY hb;have F1:Hid (Fit (za.natAbs:Int)):=hid (kY fa (aj _) (Int.natAbs_natCast _));have F2:Hid (Fit (zb.natAbs:Int)):=hid (kY fb (aj _) (Int.natAbs_natCast _));have HG0:=hid (GX.new w (.int .i64 s1) (.bool b1) (.slice a1 n1 c1) (.int .i64 s2) (.bool b2) (.slice a2 n2 c2) _ rfl);obtain ⟨g,hg⟩:∃g,Int.gcd za zb=g:=⟨_,rfl⟩
 have HGG:Hid (Nat.gcd za.natAbs zb.natAbs=g):=hid hg;rw[hg];clear ha hb fa fb hg
 go_enter func87,ntmps87
 go_upto_region 1 with fail
 go_cut [9] (fun _ wx=>GR w g zb.natAbs wx)
 case first=>
  go_region_with ((first | (go_at_call 126;first
   | (with_reducible refine (haa _ HG0.out.drew.bel).mono ?_
      rintro e w1 ⟨v1,rfl,hv1,hb1⟩;have HG1:=hid (HG0.out.drew.far hb1);have HV1:=hid hv1;obtain ⟨s3,b3,a3,n3,c3,rfl⟩:=aY hv1
      obtain ⟨⟨k0,k1,k2⟩,⟨l0,l1,l2⟩,-,-⟩:=HG1.out.cells)
   | (with_reducible refine (hbb _ HG1.out.bel).mono ?_
      rintro e w2 ⟨v2,rfl,hv2,hb2⟩;have HG2:=hid (HG1.out.far hb2);have HV2:=hid (HV1.out.far hb2);have HU2:=hid hv2;obtain ⟨s4,b4,a4,n4,c4,rfl⟩:=aY hv2
      obtain ⟨⟨m0,m1,m2⟩,⟨o0,o1,o2⟩,fm,fo⟩:=HG2.out.cells))))
  all_goals (go_wp2_with fail;go_meet;exact pC HG2.out HV2.out HU2.out HGG.out F1.out F2.out rfl)
 case rest=>
  clear haa hbb HG0 F1 F2 HGG;have HC:=hid hcut;clear hcut
  go_wp2
  go_loopg [14] zb.natAbs (fun n _ wr=>GR w g n wr)
  case atStart=>exact HC.out
  case round=>
   clear HC;obtain ⟨s1,b1,a1,n1,c1,s2,b2,a2,n2,c2,p,q,hgx,hp,hq,hg,fp,fq,rfl⟩:=hrel;have HX:=hid hgx;have HP:=hid hp;have HQ:=hid hq;have HGC:=hid hg;have FP:=hid fp;have FQ:=hid fq;obtain ⟨⟨k0,k1,k2⟩,⟨l0,l1,l2⟩,fk,fl⟩:=hgx.cells;clear hgx hp hq hg fp fq;have hiz:=dV _ _ wr HQ.out;have hMz:decide (((q:Nat):Int)=0)=decide (q=0):=by rw[decide_eq_decide];omega
   rw[hMz] at hiz;clear hMz
   go_wp2_with fail
   refine hiz.mono ?_;rintro e w3 ⟨rfl,hb3⟩;have HX3:=hid (HX.out.far hb3);have HP3:=hid (HP.out.far hb3);have HQ3:=hid (HQ.out.far hb3);clear hiz hb3 k0 k1 k2 l0 l1 l2 fk fl HX HP HQ;obtain ⟨⟨k0,k1,k2⟩,⟨l0,l1,l2⟩,fk,fl⟩:=HX3.out.cells
   by_cases hy:q=0
   · have hyb:decide (q=0)=true:=aH hy;obtain ⟨⟨r0,r1,r2⟩,fr⟩:=HX3.out.res;have HE:Hid (p=g):=hid (by rw[←HGC.out,hy,Nat.gcd_zero_right]);clear hy
     go_wp2
     rw[←HE.out];exact dH results87 rfl rfl HX3.out.hr HP3.out HX3.out.bel (by omega)
   · have hyb:decide (q=0)=false:=aD hy;have HQ0:Hid ((q:Int)≠0):=hid (by omega);have hlt:p % q<q:=Nat.mod_lt _ (by omega);have HR:Hid (Nat.gcd q (p % q)=g):=hid (by rw[←HGC.out,Nat.gcd_comm p q,Nat.gcd_rec q p,Nat.gcd_comm]);have FR:Hid (Fit ((p % q:Nat):Int)):=hid (kY FQ.out (aL (by rw[Int.natAbs_natCast];exact hlt)) (Int.natAbs_natCast _));have HM:Hid ((p:Int) % (q:Int)=((p % q:Nat):Int)):=hid rfl;have hqr:=tD _ _ _ _ w3 HP3.out HQ3.out FP.out FQ.out HQ0.out;clear hy
     by_cases hbig:aV (p:Int)∧aV (q:Int)
     · obtain ⟨hps,hqs⟩:=hbig;have e1:=iv_small HP3.out hps;have e2:=iv_small HQ3.out hqs;unfold cV at e1 e2;obtain ⟨rfl,rfl,rfl,rfl,rfl⟩:s1=(p:Int)∧b1=false∧a1=none∧n1=0∧c1=0:=by simpa using e1
       obtain ⟨rfl,rfl,rfl,rfl,rfl⟩:s2=(q:Int)∧b2=false∧a2=none∧n2=0∧c2=0:=by simpa using e2
       clear e1 e2 hqr FR HM HR;have hpm:=hps.2;have hqm:=hqs.2;clear hps hqs hlt
       go_wp2
       go_quiet (fail)
       go_wp2
       go_loopw [5,6] (fun s t wr=>∃u v:Nat,s=.int .i64 u∧t=.int .i64 v∧Nat.gcd u v=g∧(u:Int)≤9223372036854775807∧(v:Int)≤9223372036854775807∧∃x0 x1 x2 y0 y1 y2,GX w wr x0 x1 x2 y0 y1 y2) (fun _ t _=>(intOf t).toNat)
       case atStart=>exact ⟨p,q,rfl,rfl,HGC.out,hpm,hqm,_,_,_,_,_,_,HX3.out.drewN _⟩
       case round=>
        clear k0 k1 k2 l0 l1 l2 fk fl HX3 HP3 HQ3;obtain ⟨u,v,rfl,rfl,hg,hu,hv,x0,x1,x2,y0,y1,y2,hc⟩:=hrel;have HG:=hid hg;have HC4:=hid hc;obtain ⟨⟨r0,r1,r2⟩,fr⟩:=hc.res;clear hg hc
        by_cases hq0:v=0
        · subst hq0;have HP:Hid (u=g):=hid (by rw[←HG.out,Nat.gcd_zero_right])
          go_wp2
          rw[←HP.out];exact dH results87 rfl rfl HC4.out.hr (cw _ (by unfold aV;omega)) HC4.out.bel (by omega)
        · have hqb:((v:Int) !=0)=true:=by simp;omega
          have hqe:((v:Int)==0)=false:=by simp;omega
          have hp0:(0:Int)≤(u:Int):=by omega
          have hq1:(0:Int)<(v:Int):=by omega
          have hlt:u % v<v:=Nat.mod_lt _ (by omega);have hpq:(u:Int) % (v:Int)=((u % v:Nat):Int):=rfl;have HR:Hid (Nat.gcd v (u % v)=g):=hid (by rw[←HG.out,Nat.gcd_comm u v,Nat.gcd_rec v u,Nat.gcd_comm]);have hpt:(u:Int).tmod (v:Int)=((u % v:Nat):Int):=rfl;generalize u % v=r at *
          go_wp2
          go_quiet (fail)
          go_wp2
          go_roundw
          case rel=>exact ⟨v,r,rfl,rfl,HR.out,hv,by omega,_,_,_,_,_,_,HC4.out.drewN _⟩
          case measure=>simp[intOf];omega
     · by_cases hps:aV (p:Int)
       · have hqs:¬aV (q:Int):=fun h=>hbig ⟨hps,h⟩
         clear hbig;have e1:=iv_small HP3.out hps;unfold cV at e1;obtain ⟨rfl,rfl,rfl,rfl,rfl⟩:s1=(p:Int)∧b1=false∧a1=none∧n1=0∧c1=0:=by simpa using e1
         clear e1;obtain ⟨ad2,rfl,rfl⟩:=mL HQ3.out hqs;clear hps hqs
         go_wp2_with fail
         refine hqr.mono ?_;rintro e w4 ⟨v1,v2,rfl,hv1,hv2,hb4⟩;rw[HM.out] at hv2;have HX4:=hid (HX3.out.far hb4);have HQ4:=hid (HQ3.out.far hb4);have HV2:=hid hv2;obtain ⟨s3,b3,a3,n3,c3,rfl⟩:=aY hv1;obtain ⟨s4,b4,a4,n4,c4,rfl⟩:=aY hv2;have hal:Below w4.heap.size w4 ((w4.alloc (.cells #[.int .i64 s3,.bool b3,.slice a3 n3 c3] 73)).alloc (.cells #[.int .i64 s4,.bool b4,.slice a4 n4 c4] 73)):=bE w4 _ _;have HX5:=hid (HX4.out.far hal);have HQ5:=hid (HQ4.out.far hal);have HV5:=hid (HV2.out.far hal);have HN5:=hid (bM w4 (.cells #[.int .i64 s3,.bool b3,.slice a3 n3 c3] 73) (.cells #[.int .i64 s4,.bool b4,.slice a4 n4 c4] 73));have hlt4:=ar HX4.out.hr;have hH:w.heap.size+3<w4.heap.size+1:=by omega
         clear hqr hv1 hv2 hb4 hal k0 k1 k2 l0 l1 l2 fk fl HX3 HP3 HQ3 HX4 HQ4 HV2
         go_wp2_with fail
         generalize ((w4.alloc (.cells #[.int .i64 s3,.bool b3,.slice a3 n3 c3] 73)).alloc (.cells #[.int .i64 s4,.bool b4,.slice a4 n4 c4] 73))=w5 at *;generalize w4.heap.size+1=H at *;have hne1:H≠w.heap.size:=by omega
         have hne2:H≠w.heap.size+1:=by omega
         obtain ⟨⟨k0,k1,k2⟩,⟨l0,l1,l2⟩,fk,fl⟩:=HX5.out.cells;obtain ⟨h0,h1,h2⟩:w5.cell? ⟨H,0,none⟩=some (.int .i64 s4)∧w5.cell? ⟨H,1,none⟩=some (.bool b4)∧w5.cell? ⟨H,2,none⟩=some (.slice a4 n4 c4):=⟨aa HN5.out 0,aa HN5.out 1,aa HN5.out 2⟩
         go_region
         all_goals go_wp2
         all_goals simp only[←World.setCell_drew]
         go_roundg (p % q)
         case rel=>exact pC HX5.out.drew HQ5.out.drew HV5.out.drew HR.out FQ.out FR.out rfl
         case measure=>exact hlt
       · clear hbig
         by_cases hqs:aV (q:Int)
         · skip
           obtain ⟨ad1,rfl,rfl⟩:=mL HP3.out hps;have e2:=iv_small HQ3.out hqs;unfold cV at e2;obtain ⟨rfl,rfl,rfl,rfl,rfl⟩:s2=(q:Int)∧b2=false∧a2=none∧n2=0∧c2=0:=by simpa using e2
           clear e2;clear hps hqs
           go_wp2_with fail
           refine hqr.mono ?_;rintro e w4 ⟨v1,v2,rfl,hv1,hv2,hb4⟩;rw[HM.out] at hv2;have HX4:=hid (HX3.out.far hb4);have HQ4:=hid (HQ3.out.far hb4);have HV2:=hid hv2;obtain ⟨s3,b3,a3,n3,c3,rfl⟩:=aY hv1;obtain ⟨s4,b4,a4,n4,c4,rfl⟩:=aY hv2;have hal:Below w4.heap.size w4 ((w4.alloc (.cells #[.int .i64 s3,.bool b3,.slice a3 n3 c3] 73)).alloc (.cells #[.int .i64 s4,.bool b4,.slice a4 n4 c4] 73)):=bE w4 _ _;have HX5:=hid (HX4.out.far hal);have HQ5:=hid (HQ4.out.far hal);have HV5:=hid (HV2.out.far hal);have HN5:=hid (bM w4 (.cells #[.int .i64 s3,.bool b3,.slice a3 n3 c3] 73) (.cells #[.int .i64 s4,.bool b4,.slice a4 n4 c4] 73));have hlt4:=ar HX4.out.hr;have hH:w.heap.size+3<w4.heap.size+1:=by omega
           clear hqr hv1 hv2 hb4 hal k0 k1 k2 l0 l1 l2 fk fl HX3 HP3 HQ3 HX4 HQ4 HV2
           go_wp2_with fail
           generalize ((w4.alloc (.cells #[.int .i64 s3,.bool b3,.slice a3 n3 c3] 73)).alloc (.cells #[.int .i64 s4,.bool b4,.slice a4 n4 c4] 73))=w5 at *;generalize w4.heap.size+1=H at *;have hne1:H≠w.heap.size:=by omega
           have hne2:H≠w.heap.size+1:=by omega
           obtain ⟨⟨k0,k1,k2⟩,⟨l0,l1,l2⟩,fk,fl⟩:=HX5.out.cells;obtain ⟨h0,h1,h2⟩:w5.cell? ⟨H,0,none⟩=some (.int .i64 s4)∧w5.cell? ⟨H,1,none⟩=some (.bool b4)∧w5.cell? ⟨H,2,none⟩=some (.slice a4 n4 c4):=⟨aa HN5.out 0,aa HN5.out 1,aa HN5.out 2⟩
           go_region
           all_goals go_wp2
           all_goals simp only[←World.setCell_drew]
           go_roundg (p % q)
           case rel=>exact pC HX5.out.drew HQ5.out.drew HV5.out.drew HR.out FQ.out FR.out rfl
           case measure=>exact hlt
         · skip
           obtain ⟨ad1,rfl,rfl⟩:=mL HP3.out hps;clear hps hqs
           go_wp2_with fail
           refine hqr.mono ?_;rintro e w4 ⟨v1,v2,rfl,hv1,hv2,hb4⟩;rw[HM.out] at hv2;have HX4:=hid (HX3.out.far hb4);have HQ4:=hid (HQ3.out.far hb4);have HV2:=hid hv2;obtain ⟨s3,b3,a3,n3,c3,rfl⟩:=aY hv1;obtain ⟨s4,b4,a4,n4,c4,rfl⟩:=aY hv2;have hal:Below w4.heap.size w4 ((w4.alloc (.cells #[.int .i64 s3,.bool b3,.slice a3 n3 c3] 73)).alloc (.cells #[.int .i64 s4,.bool b4,.slice a4 n4 c4] 73)):=bE w4 _ _;have HX5:=hid (HX4.out.far hal);have HQ5:=hid (HQ4.out.far hal);have HV5:=hid (HV2.out.far hal);have HN5:=hid (bM w4 (.cells #[.int .i64 s3,.bool b3,.slice a3 n3 c3] 73) (.cells #[.int .i64 s4,.bool b4,.slice a4 n4 c4] 73));have hlt4:=ar HX4.out.hr;have hH:w.heap.size+3<w4.heap.size+1:=by omega
           clear hqr hv1 hv2 hb4 hal k0 k1 k2 l0 l1 l2 fk fl HX3 HP3 HQ3 HX4 HQ4 HV2
           go_wp2_with fail
           generalize ((w4.alloc (.cells #[.int .i64 s3,.bool b3,.slice a3 n3 c3] 73)).alloc (.cells #[.int .i64 s4,.bool b4,.slice a4 n4 c4] 73))=w5 at *;generalize w4.heap.size+1=H at *;have hne1:H≠w.heap.size:=by omega
           have hne2:H≠w.heap.size+1:=by omega
           obtain ⟨⟨k0,k1,k2⟩,⟨l0,l1,l2⟩,fk,fl⟩:=HX5.out.cells;obtain ⟨h0,h1,h2⟩:w5.cell? ⟨H,0,none⟩=some (.int .i64 s4)∧w5.cell? ⟨H,1,none⟩=some (.bool b4)∧w5.cell? ⟨H,2,none⟩=some (.slice a4 n4 c4):=⟨aa HN5.out 0,aa HN5.out 1,aa HN5.out 2⟩
           go_region
           all_goals go_wp2
           all_goals simp only[←World.setCell_drew]
           go_roundg (p % q)
           case rel=>exact pC HX5.out.drew HQ5.out.drew HV5.out.drew HR.out FQ.out FR.out rfl
           case measure=>exact hlt
theorem vV {n d:Int} (fa:Fit n) (fb:Fit d):qW n d:=fun x y W hx hy=>zq x y n d W hx hy fa fb
structure OneR (w wx:World) (x0 x1 x2 x3 x4 x5:Value):Prop where
 ha:wx.heap[w.heap.size]? =some (.cells #[x0,x1,x2,x3,x4,x5] 75 (0,0))
 hr:wx.heap[w.heap.size+1]? =some (.cells #[.int .i64 0,.bool false,.slice none 0 0,.int .i64 0,.bool false,.slice none 0 0] 75 (0,0))
 bel:Below w.heap.size w wx
theorem OneR.far {w wx w1:World} {x0 x1 x2 x3 x4 x5:Value} (h:OneR w wx x0 x1 x2 x3 x4 x5) (hb:Below wx.heap.size wx w1):OneR w w1 x0 x1 x2 x3 x4 x5:=
 ⟨(hb.block _ (ar h.ha)).trans h.ha,(hb.block _ (ar h.hr)).trans h.hr,h.bel.trans (hb.mono h.bel.size)⟩
theorem OneR.drew {w wx:World} {x0 x1 x2 x3 x4 x5:Value} (h:OneR w wx x0 x1 x2 x3 x4 x5):OneR w wx.drew x0 x1 x2 x3 x4 x5:=⟨h.ha,h.hr,h.bel.drew⟩
theorem OneR.cells {w wx:World} {x0 x1 x2 x3 x4 x5:Value} (h:OneR w wx x0 x1 x2 x3 x4 x5):wx.cell? ⟨w.heap.size,0,none⟩=some x0∧wx.cell? ⟨w.heap.size,1,none⟩=some x1∧wx.cell? ⟨w.heap.size,2,none⟩=some x2∧wx.cell? ⟨w.heap.size,3,none⟩=some x3∧wx.cell? ⟨w.heap.size,4,none⟩=some x4∧wx.cell? ⟨w.heap.size,5,none⟩=some x5:=
 ⟨aa h.ha 0,aa h.ha 1,aa h.ha 2,aa h.ha 3,aa h.ha 4,aa h.ha 5⟩
theorem OneR.new (w:World) (x0 x1 x2 x3 x4 x5:Value) (o:Obj) (ho:o=.cells #[.int .i64 0,.bool false,.slice none 0 0,.int .i64 0,.bool false,.slice none 0 0] 75):OneR w ((w.alloc (.cells #[x0,x1,x2,x3,x4,x5] 75)).alloc o) x0 x1 x2 x3 x4 x5:=by
 subst ho;exact ⟨(Below.heap_alloc _ _ _ (by simp)).trans (aq w _),bM w _ _,bE w _ _⟩
theorem xX (q:Rat):fE (-q)=fE q:=rfl
theorem tE (x:Value) (p:Rat) (w:World) (hx:RV w x p):Calls prog 202 #[x] w (my (-p) w):=by
 obtain ⟨s1,b1,a1,n1,c1,s2,b2,a2,n2,c2,rfl,h1,h2⟩:=bG hx;have H1:=hid h1;have H2:=hid h2;have HT:=hid (OneR.new w (.int .i64 s1) (.bool b1) (.slice a1 n1 c1) (.int .i64 s2) (.bool b2) (.slice a2 n2 c2) _ rfl);have K0:=hid HT.out.drew.cells;have hne1:w.heap.size≠w.heap.size+1:=by omega
 clear hx h1 h2
 go_enter func202,ntmps202
 go_wp2
 go_region_held3 (fun w'=>w'.cell? ⟨w.heap.size,0,none⟩=some (.int .i64 s1)∧w'.cell? ⟨w.heap.size,1,none⟩=some (.bool b1)∧w'.cell? ⟨w.heap.size,2,none⟩=some (.slice a1 n1 c1)∧w'.cell? ⟨w.heap.size,3,none⟩=some (.int .i64 s2)∧w'.cell? ⟨w.heap.size,4,none⟩=some (.bool b2)∧w'.cell? ⟨w.heap.size,5,none⟩=some (.slice a2 n2 c2))
  (first | with_reducible exact K1.out | with_reducible exact K0.out | (obtain ⟨k0,k1,k2,k3,k4,k5⟩:=K1.out;exact ⟨(fi hne1 _ _ _ _ _ _ 0).trans k0,(fi hne1 _ _ _ _ _ _ 1).trans k1,(fi hne1 _ _ _ _ _ _ 2).trans k2,(fi hne1 _ _ _ _ _ _ 3).trans k3,(fi hne1 _ _ _ _ _ _ 4).trans k4,(fi hne1 _ _ _ _ _ _ 5).trans k5⟩))
  (first
    | (go_at_call 176;first
        | (with_reducible refine (o8 _ p.num _ (H1.out.far HT.out.drew.bel)).mono ?_
           rintro e u1 ⟨v1,rfl,hv1,hb1⟩;have T1:=hid (HT.out.drew.far hb1);have K1:=hid T1.out.cells;have V1_1:=hid hv1;obtain ⟨e1a,e1b,e1c,e1d,e1f,rfl⟩:=aY hv1
           obtain ⟨⟨r0,r1,r2,r3,r4,r5⟩,fr⟩:=ResR.cells T1.out.hr)))
 go_wp2
 exact j2 results202 rfl rfl T1.out.hr (by show IV _ _ (-p.num);exact V1_1.out) (by rw[xX];exact H2.out.far T1.out.bel) T1.out.bel (by omega)
structure TwoB (w wx:World) (x0 x1 x2 x3 x4 x5 y0 y1 y2 y3 y4 y5:Value):Prop where
 ha:wx.heap[w.heap.size]? =some (.cells #[x0,x1,x2,x3,x4,x5] 75 (0,0))
 hb:wx.heap[w.heap.size+1]? =some (.cells #[y0,y1,y2,y3,y4,y5] 75 (0,0))
 bel:Below w.heap.size w wx
theorem TwoB.far {w wx w1:World} {x0 x1 x2 x3 x4 x5 y0 y1 y2 y3 y4 y5:Value} (h:TwoB w wx x0 x1 x2 x3 x4 x5 y0 y1 y2 y3 y4 y5) (hb:Below wx.heap.size wx w1):TwoB w w1 x0 x1 x2 x3 x4 x5 y0 y1 y2 y3 y4 y5:=
 ⟨(hb.block _ (ar h.ha)).trans h.ha,(hb.block _ (ar h.hb)).trans h.hb,h.bel.trans (hb.mono h.bel.size)⟩
theorem TwoB.drew {w wx:World} {x0 x1 x2 x3 x4 x5 y0 y1 y2 y3 y4 y5:Value} (h:TwoB w wx x0 x1 x2 x3 x4 x5 y0 y1 y2 y3 y4 y5):TwoB w wx.drew x0 x1 x2 x3 x4 x5 y0 y1 y2 y3 y4 y5:=⟨h.ha,h.hb,h.bel.drew⟩
theorem TwoB.cells {w wx:World} {x0 x1 x2 x3 x4 x5 y0 y1 y2 y3 y4 y5:Value} (h:TwoB w wx x0 x1 x2 x3 x4 x5 y0 y1 y2 y3 y4 y5):wx.cell? ⟨w.heap.size,0,none⟩=some x0∧wx.cell? ⟨w.heap.size,1,none⟩=some x1∧wx.cell? ⟨w.heap.size,2,none⟩=some x2∧wx.cell? ⟨w.heap.size,3,none⟩=some x3∧wx.cell? ⟨w.heap.size,4,none⟩=some x4∧wx.cell? ⟨w.heap.size,5,none⟩=some x5∧wx.cell? ⟨w.heap.size+1,0,none⟩=some y0∧wx.cell? ⟨w.heap.size+1,1,none⟩=some y1∧wx.cell? ⟨w.heap.size+1,2,none⟩=some y2∧wx.cell? ⟨w.heap.size+1,3,none⟩=some y3∧wx.cell? ⟨w.heap.size+1,4,none⟩=some y4∧wx.cell? ⟨w.heap.size+1,5,none⟩=some y5:=
 ⟨aa h.ha 0,aa h.ha 1,aa h.ha 2,aa h.ha 3,aa h.ha 4,aa h.ha 5,aa h.hb 0,aa h.hb 1,aa h.hb 2,aa h.hb 3,aa h.hb 4,aa h.hb 5⟩
theorem TwoB.new (w:World) (x0 x1 x2 x3 x4 x5 y0 y1 y2 y3 y4 y5:Value):TwoB w ((w.alloc (.cells #[x0,x1,x2,x3,x4,x5] 75)).alloc (.cells #[y0,y1,y2,y3,y4,y5] 75)) x0 x1 x2 x3 x4 x5 y0 y1 y2 y3 y4 y5:=
 ⟨(Below.heap_alloc _ _ _ (by simp)).trans (aq w _),bM w _ _,bE w _ _⟩
theorem xY (z:Int):fE (z:Rat)=0:=xT (Rat.den_intCast z)
theorem oC (p q:Rat):cmpI (p.num*q.den) (q.num*p.den)=jX p q:=(mt p q).symm
theorem xZ {p q:Rat} (hp:p.den=1) (hq:q.den=1):cmpI p.num q.num=jX p q:=by rw[←oC,hp,hq];simp
theorem fH (x:Value) (z:Int) (w:World) (hx:IV w x z):Calls prog 144 #[x] w (my (z:Rat) w):=by
 obtain ⟨s1,b1,a1,n1,c1,rfl⟩:=aY hx;have H1:=hid hx;have HR:=hid (bM w (.cells #[.int .i64 s1,.bool b1,.slice a1 n1 c1] 73) (.cells #[.int .i64 0,.bool false,.slice none 0 0,.int .i64 0,.bool false,.slice none 0 0] 75));have HB:=hid (bE w (.cells #[.int .i64 s1,.bool b1,.slice a1 n1 c1] 73) (.cells #[.int .i64 0,.bool false,.slice none 0 0,.int .i64 0,.bool false,.slice none 0 0] 75));have H2:=hid (H1.out.far HB.out);clear hx
 go_enter func144,ntmps144
 go_upto_region 1 with fail
 have HC:=hid ((Below.heap_alloc _ _ _ (by simp)).trans (aq w (.cells #[.int .i64 s1,.bool b1,.slice a1 n1 c1] 73)):((w.alloc (.cells #[.int .i64 s1,.bool b1,.slice a1 n1 c1] 73)).alloc (.cells #[.int .i64 0,.bool false,.slice none 0 0,.int .i64 0,.bool false,.slice none 0 0] 75)).heap[w.heap.size]? =some (.cells #[.int .i64 s1,.bool b1,.slice a1 n1 c1] 73 (0,0)));generalize (w.alloc (.cells #[.int .i64 s1,.bool b1,.slice a1 n1 c1] 73)).alloc (.cells #[.int .i64 0,.bool false,.slice none 0 0,.int .i64 0,.bool false,.slice none 0 0] 75)=w1 at *;obtain ⟨k0,k1,k2,-,-,-⟩:=Cells.of HC.out;obtain ⟨⟨r0,r1,r2,r3,r4,r5⟩,fr⟩:=ResR.cells HR.out
 go_wp2
 exact j2 results144 rfl rfl HR.out (by rw[Rat.num_intCast];exact H2.out) (by rw[xY];exact dj _) HB.out (by omega)
theorem tF {k l:Nat} (x y:Value) (p q:Rat) (w:World) (hx:RV w x p) (hy:RV w y q) (hp:RS k p) (hq:RS l q) (hk:k≤900) (hl:l≤900):Calls prog 89 #[x,y] w fun e w'=>e=.returned (.int .i64 (jX p q))∧Below w.heap.size w w':=by
 have hip:=fun W (hW:Below w.heap.size w W)=>eh x p W (hx.far hW)
 have hiq:=fun W (hW:Below w.heap.size w W)=>eh y q W (hy.far hW)
 have hdp:=fun W (hW:Below w.heap.size w W)=>jE x p W (hx.far hW)
 have hdq:=fun W (hW:Below w.heap.size w W)=>jE y q W (hy.far hW)
 obtain ⟨s1,b1,a1,n1,c1,s2,b2,a2,n2,c2,rfl,h1,h2⟩:=bG hx;obtain ⟨s3,b3,a3,n3,c3,s4,b4,a4,n4,c4,rfl,h3,h4⟩:=bG hy;have H1:=hid h1;have H3:=hid h3;have HT0:=hid (TwoB.new w (.int .i64 s1) (.bool b1) (.slice a1 n1 c1) (.int .i64 s2) (.bool b2) (.slice a2 n2 c2) (.int .i64 s3) (.bool b3) (.slice a3 n3 c3) (.int .i64 s4) (.bool b4) (.slice a4 n4 c4));have HPF:=hid hp;have HQF:=hid hq;have hip0:=hip _ HT0.out.bel;clear hx hy h1 h2 h3 h4 hp hq
 go_enter func89,ntmps89
 go_upto_region 1 with fail
 go_cut [10] (fun cv wx=>cv=.bool (decide (p.den=1) && decide (q.den=1))∧TwoB w wx (.int .i64 s1) (.bool b1) (.slice a1 n1 c1) (.int .i64 s2) (.bool b2) (.slice a2 n2 c2) (.int .i64 s3) (.bool b3) (.slice a3 n3 c3) (.int .i64 s4) (.bool b4) (.slice a4 n4 c4))
 case first=>
  go_wp2_with fail
  refine hip0.mono ?_;rintro e w1 ⟨rfl,hb1⟩;have HT1:=hid (HT0.out.far hb1);have hiq1:=hiq w1 HT1.out.bel;obtain ⟨y0,y1,y2,y3,y4,y5,z0,z1,z2,z3,z4,z5⟩:=HT1.out.cells;clear hb1 hip0
  by_cases hd:p.den=1
  · have hdb:decide (p.den=1)=true:=by simpa using hd
    go_wp2_with fail
    refine hiq1.mono ?_;rintro e w2 ⟨rfl,hb2⟩;have HT2:=hid (HT1.out.far hb2)
    go_wp2
    go_meet
    exact ⟨by rw[hdb];rfl,HT2.out⟩
  · have hdb:decide (p.den=1)=false:=by simpa using hd
    go_wp2
    go_meet
    exact ⟨by rw[hdb];rfl,HT1.out⟩
 case rest=>
  obtain ⟨rfl,ht⟩:=hcut;have HT:=hid ht;obtain ⟨y0,y1,y2,y3,y4,y5,z0,z1,z2,z3,z4,z5⟩:=ht.cells;clear ht hip0 HT0
  by_cases hd:p.den=1∧q.den=1
  · have hdb:(decide (p.den=1) && decide (q.den=1))=true:=by simp[hd.1,hd.2]
    have HE:=hid (xZ hd.1 hd.2);have hc:=uI _ _ p.num q.num wc (H1.out.far HT.out.bel) (H3.out.far HT.out.bel)
    go_wp2_with fail
    refine hc.mono ?_;rintro e w3 ⟨rfl,hb3⟩;have HB3:=hid (HT.out.far hb3).bel;clear hb3 hc
    go_wp2
    go_ret
    exact ⟨ret_int HE.out,HB3.out⟩
  · have hdb:(decide (p.den=1) && decide (q.den=1))=false:=by
      cases h:(decide (p.den=1) && decide (q.den=1)) with
      | false=>rfl
      | true=>simp only[Bool.and_eq_true,decide_eq_true_eq] at h;exact absurd h hd
    have HE:=hid (oC p q);have F1:Hid (Fit p.num):=hid (kV HPF.out.1 (by omega));have F2:Hid (Fit (q.den:Int)):=hid (kV (k:=l) (by rw[Int.natAbs_natCast];exact HQF.out.2) (by omega));have F3:Hid (Fit q.num):=hid (kV HQF.out.1 (by omega));have F4:Hid (Fit (p.den:Int)):=hid (kV (k:=k) (by rw[Int.natAbs_natCast];exact HPF.out.2) (by omega));clear y0 y1 y2 y3 y4 y5 z0 z1 z2 z3 z4 z5 hip hiq;have K0:=hid HT.out.drew.cells
    go_wp2
    go_region_held3 (fun w'=>w'.cell? ⟨w.heap.size,0,none⟩=some (.int .i64 s1)∧w'.cell? ⟨w.heap.size,1,none⟩=some (.bool b1)∧w'.cell? ⟨w.heap.size,2,none⟩=some (.slice a1 n1 c1)∧w'.cell? ⟨w.heap.size,3,none⟩=some (.int .i64 s2)∧w'.cell? ⟨w.heap.size,4,none⟩=some (.bool b2)∧w'.cell? ⟨w.heap.size,5,none⟩=some (.slice a2 n2 c2)∧w'.cell? ⟨w.heap.size+1,0,none⟩=some (.int .i64 s3)∧w'.cell? ⟨w.heap.size+1,1,none⟩=some (.bool b3)∧w'.cell? ⟨w.heap.size+1,2,none⟩=some (.slice a3 n3 c3)∧w'.cell? ⟨w.heap.size+1,3,none⟩=some (.int .i64 s4)∧w'.cell? ⟨w.heap.size+1,4,none⟩=some (.bool b4)∧w'.cell? ⟨w.heap.size+1,5,none⟩=some (.slice a4 n4 c4))
     (first | with_reducible exact K5.out | with_reducible exact K4.out | with_reducible exact K3.out | with_reducible exact K2.out | with_reducible exact K1.out | with_reducible exact K0.out | go_keep)
     (first
       | (go_at_call 130;first
           | (with_reducible refine (hdq _ HT.out.drew.bel).mono ?_
              rintro e u1 ⟨v1,rfl,hv1,hb1⟩;have T1:=hid (HT.out.drew.far hb1);have K1:=hid T1.out.cells;have V1_1:=hid hv1
              obtain ⟨e1a,e1b,e1c,e1d,e1f,rfl⟩:=aY hv1)
           | (with_reducible refine (hdp _ T2.out.bel).mono ?_
              rintro e u3 ⟨v3,rfl,hv3,hb3⟩;have T3:=hid (T2.out.far hb3);have K3:=hid T3.out.cells;have V1_3:=hid (V1_2.out.far hb3);have V2_3:=hid (V2_2.out.far hb3);have V3_3:=hid hv3
              obtain ⟨e3a,e3b,e3c,e3d,e3f,rfl⟩:=aY hv3))
       | (go_at_call 129;first
           | (with_reducible refine (uH _ _ p.num q.den _ (H1.out.far T1.out.bel) V1_1.out F1.out F2.out).mono ?_
              rintro e u2 ⟨v2,rfl,hv2,hb2⟩;have T2:=hid (T1.out.far hb2);have K2:=hid T2.out.cells;have V1_2:=hid (V1_1.out.far hb2);have V2_2:=hid hv2
              obtain ⟨e2a,e2b,e2c,e2d,e2f,rfl⟩:=aY hv2)
           | (with_reducible refine (uH _ _ q.num p.den _ (H3.out.far T3.out.bel) V3_3.out F3.out F4.out).mono ?_
              rintro e u4 ⟨v4,rfl,hv4,hb4⟩;have T4:=hid (T3.out.far hb4);have K4:=hid T4.out.cells;have V1_4:=hid (V1_3.out.far hb4);have V2_4:=hid (V2_3.out.far hb4);have V3_4:=hid (V3_3.out.far hb4);have V4_4:=hid hv4
              obtain ⟨e4a,e4b,e4c,e4d,e4f,rfl⟩:=aY hv4))
       | (go_at_call 128;first
           | (with_reducible refine (uI _ _ (p.num*q.den) (q.num*p.den) _ V2_4.out V4_4.out).mono ?_
              rintro e u5 ⟨rfl,hb5⟩;have T5:=hid (T4.out.far hb5);have K5:=hid T5.out.cells;have V1_5:=hid (V1_4.out.far hb5);have V2_5:=hid (V2_4.out.far hb5);have V3_5:=hid (V3_4.out.far hb5)
              have V4_5:=hid (V4_4.out.far hb5))))
    go_wp2
    go_ret
    exact ⟨ret_int HE.out,T5.out.bel⟩
end Go.Proofs.YtpkfnnkbfphfbaaGreatDoor

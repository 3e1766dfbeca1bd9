import Derived.Test.YtpkfnnkbfphfbaaGreatDoorHNC
import Derived.Test.YtpkfnnkbfphfbaaGreatDoorHShelf
import Derived.Deep.RegionHeld3
import Derived.Deep.DeepCutAuto
import Derived.Deep.AppendLies
set_option maxRecDepth 100000
set_option maxHeartbeats 40000000
open Go.Lib (hid)
namespace Go.Proofs.YtpkfnnkbfphfbaaGreatDoor
open Go.RowKit Nmx Go.Proofs.Tryz
theorem sgn_mul (a b:Bool) (m n:Nat):sgn (a !=b) (m*n)=sgn a m*sgn b n:=by
 cases a <;> cases b <;> simp[sgn,Int.neg_mul,Int.mul_neg]
theorem lQ (z:Int):sgn (decide (z<0)) z.natAbs=z:=by
 by_cases h:z<0
 · rw[aH h];unfold sgn;simp;omega
 · rw[aD h];unfold sgn;simp;omega
theorem dk (x y:Nat) (X Y:Int) (hX:X=x) (hY:Y=y) (hx:x≤9223372036854775807) (hy:y≤9223372036854775807) (P H L:Nat) (hP:x*y=P) (hH:P / 18446744073709551616=H) (hL:P % 18446744073709551616=L) (w:World):
    Calls prog 183 #[.int .u64 X,.int .u64 Y] w fun e w'=>e=.returned (.tuple #[.int .u64 H,.int .u64 L])∧w'=w:=by
 subst hX hY hP hH hL;exact Tryz.bits_Mul64 x y (by omega) (by omega) w
theorem ph:
    (∀{za zb:Int} {b1 b2:Bool} {ad1 ad2:Addr} {n1 c1 n2 c2:Nat} (w:World) (_:IV w (.agg #[.int .i64 0,.bool b1,.slice (some ad1) n1 c1]) za) (_:IV w (.agg #[.int .i64 0,.bool b2,.slice (some ad2) n2 c2]) zb) (_:Fit za) (_:Fit zb),Calls prog 129 #[.agg #[.int .i64 0,.bool b1,.slice (some ad1) n1 c1],.agg #[.int .i64 0,.bool b2,.slice (some ad2) n2 c2]] w (cD (za*zb) w))∧
    (∀{za zb:Int} {b1:Bool} {ad1:Addr} {n1 c1:Nat} (w:World) (_:IV w (.agg #[.int .i64 0,.bool b1,.slice (some ad1) n1 c1]) za) (_:IV w (.agg #[.int .i64 zb,.bool false,.slice none 0 0]) zb) (_:Fit za) (_:Fit zb),Calls prog 129 #[.agg #[.int .i64 0,.bool b1,.slice (some ad1) n1 c1],.agg #[.int .i64 zb,.bool false,.slice none 0 0]] w (cD (za*zb) w))∧
    (∀{za zb:Int} {b2:Bool} {ad2:Addr} {n2 c2:Nat} (w:World) (_:IV w (.agg #[.int .i64 za,.bool false,.slice none 0 0]) za) (_:IV w (.agg #[.int .i64 0,.bool b2,.slice (some ad2) n2 c2]) zb) (_:Fit za) (_:Fit zb),Calls prog 129 #[.agg #[.int .i64 za,.bool false,.slice none 0 0],.agg #[.int .i64 0,.bool b2,.slice (some ad2) n2 c2]] w (cD (za*zb) w)):=by
 refine ⟨?g1,?g2,?g3⟩
 focus
  intro za zb b1 b2 ad1 ad2 n1 c1 n2 c2 w ha hb fa fb
 rotate_left
 focus
  intro za zb b1 ad1 n1 c1 w ha hb fa fb
 rotate_left
 focus
  intro za zb b2 ad2 n2 c2 w ha hb fa fb
 rotate_left
 all_goals
  have kq:=cB;have kq0:=bJ;have hpa:=fun (W':World) (hB:Below w.heap.size w W')=>bd _ _ W' (ha.far hB)
  have hpb:=fun (W':World) (hB:Below w.heap.size w W')=>bd _ _ W' (hb.far hB)
  clear ha hb
  go_enter func129,ntmps129
  go_wp2_with fail
  refine (hpa _ (eT w _ _ _)).mono ?_;rintro e w1 ⟨va',la,rfl,hva,hna,hla,-,hb1⟩;have hlla:=gR hna hla fa;obtain ⟨hc1,hf1⟩:=cM hb1;have hz1:w.heap.size+2<w1.heap.size:=by have:=hb1.size;simp at this;omega
  have HB1:=hid ((eT w _ _ _).trans (hb1.mono (by simp;omega)));have HR1:=hid ((hb1.block (w.heap.size+2) (by simp)).trans (ey w _ _ _));have HVA:=hid hva;have HLA:=hid hla;clear hb1 hva hna hla hpa
  go_wp2_with fail
  refine (hpb _ HB1.out).mono ?_;rintro e w2 ⟨vb',lb,rfl,hvb,hnb,hlb,-,hb2⟩;have hllb:=gR hnb hlb fb;obtain ⟨hc2,hf2⟩:=cM hb2;have hz2:w.heap.size+2<w2.heap.size:=by have:=hb2.size;omega
  have HB2:=hid (HB1.out.trans (hb2.mono HB1.out.size));have HR2:=hid ((hb2.block (w.heap.size+2) hz1).trans HR1.out);have HVA2:=hid (HVA.out.far hb2);have HVB:=hid hvb;have HLB:=hid hlb;clear hb2 hvb hnb hlb hpb HB1 HR1 HVA;have hmul:=j1 va' vb' la lb w2 HVA2.out HVB.out (by omega) (by omega)
  go_wp2_with fail
  refine hmul.mono ?_;rintro e w3 ⟨v3,l3,rfl,hv3,hw3,hl3,hb3⟩;have hfp:=cr (decide (za<0) !=decide (zb<0)) v3 l3 w3 hv3 (by omega);have HW3:=hid hw3;obtain ⟨hc3,hf3⟩:=cM hb3;have hz3:w.heap.size+2<w3.heap.size:=by have:=hb3.size;omega
  have HB3:=hid (HB2.out.trans (hb3.mono HB2.out.size));have HR3:=hid ((hb3.block (w.heap.size+2) hz2).trans HR2.out);clear hb3 hv3 hw3 hmul
  go_wp2_with fail
  refine hfp.mono ?_;rintro e w4 ⟨v4,rfl,hv4,hb4⟩;have HV4:=hid hv4;obtain ⟨s4,b4,a4,n4,c4,rfl⟩:=aY hv4;obtain ⟨hc4,hf4⟩:=cM hb4;have HB4:=hid (HB3.out.trans (hb4.mono HB3.out.size));have HR4:=hid ((hb4.block (w.heap.size+2) hz3).trans HR3.out)
  have HE:Hid (sgn (decide (za<0) !=decide (zb<0)) (wv l3)=za*zb):=hid (by
   rw[HW3.out,HLA.out,HLB.out,sgn_mul,lQ,lQ])
  clear hb4 hv4 hfp
  go_wp2
  rw[←HE.out];exact dH results129 rfl rfl HR4.out HV4.out HB4.out (by omega)
theorem lR:
    (∀{za zb:Int} (w:World) (_:aV za) (_:aV zb) (_:¬za<0) (_:¬zb<0) (_:aV (za*zb)),Calls prog 129 #[.agg #[.int .i64 za,.bool false,.slice none 0 0],.agg #[.int .i64 zb,.bool false,.slice none 0 0]] w (cD (za*zb) w))∧
    (∀{za zb:Int} (w:World) (_:aV za) (_:aV zb) (_:¬za<0) (_:zb<0) (_:aV (za*zb)),Calls prog 129 #[.agg #[.int .i64 za,.bool false,.slice none 0 0],.agg #[.int .i64 zb,.bool false,.slice none 0 0]] w (cD (za*zb) w))∧
    (∀{za zb:Int} (w:World) (_:aV za) (_:aV zb) (_:za<0) (_:¬zb<0) (_:aV (za*zb)),Calls prog 129 #[.agg #[.int .i64 za,.bool false,.slice none 0 0],.agg #[.int .i64 zb,.bool false,.slice none 0 0]] w (cD (za*zb) w))∧
    (∀{za zb:Int} (w:World) (_:aV za) (_:aV zb) (_:za<0) (_:zb<0) (_:aV (za*zb)),Calls prog 129 #[.agg #[.int .i64 za,.bool false,.slice none 0 0],.agg #[.int .i64 zb,.bool false,.slice none 0 0]] w (cD (za*zb) w)):=by
 refine ⟨?g1,?g2,?g3,?g4⟩
 focus
  intro za zb w hza hzb ha0 hb0 hs
 rotate_left
 focus
  intro za zb w hza hzb ha0 hb0 hs
 rotate_left
 focus
  intro za zb w hza hzb ha0 hb0 hs
 rotate_left
 focus
  intro za zb w hza hzb ha0 hb0 hs
 rotate_left
 all_goals
  have kq0:=bJ;obtain ⟨q1,q2⟩:=hza;obtain ⟨q3,q4⟩:=hzb
 focus
  have hda:decide (za<0)=false:=by simpa using ha0
  have hdb:decide (zb<0)=false:=by simpa using hb0
  have hx0:(0:Int)≤za:=by omega
  have hy0:(0:Int)≤zb:=by omega
  have hxm:za≤9223372036854775807:=by omega
  have hym:zb≤9223372036854775807:=by omega
 rotate_left
 focus
  have hda:decide (za<0)=false:=by simpa using ha0
  have hdb:decide (zb<0)=true:=by simpa using hb0
  have hx0:(0:Int)≤za:=by omega
  have hy0:(0:Int)≤-zb:=by omega
  have hxm:za≤9223372036854775807:=by omega
  have hym: -zb≤9223372036854775807:=by omega
 rotate_left
 focus
  have hda:decide (za<0)=true:=by simpa using ha0
  have hdb:decide (zb<0)=false:=by simpa using hb0
  have hx0:(0:Int)≤-za:=by omega
  have hy0:(0:Int)≤zb:=by omega
  have hxm: -za≤9223372036854775807:=by omega
  have hym:zb≤9223372036854775807:=by omega
 rotate_left
 focus
  have hda:decide (za<0)=true:=by simpa using ha0
  have hdb:decide (zb<0)=true:=by simpa using hb0
  have hx0:(0:Int)≤-za:=by omega
  have hy0:(0:Int)≤-zb:=by omega
  have hxm: -za≤9223372036854775807:=by omega
  have hym: -zb≤9223372036854775807:=by omega
 rotate_left
 all_goals
  obtain ⟨P,hP⟩:∃P,za.natAbs*zb.natAbs=P:=⟨_,rfl⟩
  obtain ⟨H,hH⟩:∃H,P / 18446744073709551616=H:=⟨_,rfl⟩
  obtain ⟨L,hL⟩:∃L,P % 18446744073709551616=L:=⟨_,rfl⟩
 focus
  have hml:=dk za.natAbs zb.natAbs (za) (zb) (by omega) (by omega) (by omega) (by omega) P H L hP hH hL
 rotate_left
 focus
  have hml:=dk za.natAbs zb.natAbs (za) (-zb) (by omega) (by omega) (by omega) (by omega) P H L hP hH hL
 rotate_left
 focus
  have hml:=dk za.natAbs zb.natAbs (-za) (zb) (by omega) (by omega) (by omega) (by omega) P H L hP hH hL
 rotate_left
 focus
  have hml:=dk za.natAbs zb.natAbs (-za) (-zb) (by omega) (by omega) (by omega) (by omega) P H L hP hH hL
 rotate_left
 all_goals
  have hPz:(za*zb).natAbs=P:=by rw[Int.natAbs_mul];exact hP
  have hPs:P≤9223372036854775807:=by unfold aV at hs;omega
  have hHz:((H:Int)==0)=true:=by simp;omega
  have hLs:(L:Int)≤9223372036854775807:=by omega
  have hLP:L=P:=by omega
 focus
  have HE:Hid (za*zb=(L:Int)):=hid (by
   have h1:0≤(za)*(zb):=Int.mul_nonneg hx0 hy0;have h2:(za)*(zb)=za*zb:=by grind
   rw[h2] at h1
   omega)
 rotate_left
 focus
  have HE:Hid (za*zb= -(L:Int)):=hid (by
   have h1:0≤(za)*(-zb):=Int.mul_nonneg hx0 hy0;have h2:(za)*(-zb)= -(za*zb):=by grind
   rw[h2] at h1
   omega)
 rotate_left
 focus
  have HE:Hid (za*zb= -(L:Int)):=hid (by
   have h1:0≤(-za)*(zb):=Int.mul_nonneg hx0 hy0;have h2:(-za)*(zb)= -(za*zb):=by grind
   rw[h2] at h1
   omega)
 rotate_left
 focus
  have HE:Hid (za*zb=(L:Int)):=hid (by
   have h1:0≤(-za)*(-zb):=Int.mul_nonneg hx0 hy0;have h2:(-za)*(-zb)=za*zb:=by grind
   rw[h2] at h1
   omega)
 rotate_left
 all_goals
  have HS:=hid hs;clear hP hH hL hPz hPs hLP hs
  go_enter func129,ntmps129
  go_wp2
  go_quiet (fail)
  go_wp2_with fail
  refine (hml _).mono ?_;rintro e w1 ⟨rfl,rfl⟩
  go_wp2
  rw[HE.out];have HS2:=HS.out;rw[HE.out] at HS2;exact dH results129 rfl rfl (ey w _ _ _) (cw _ HS2) (aW (eT w _ _ _) _) (by omega)
theorem fP:
    (∀{za zb:Int} (w:World) (_:aV za) (_:aV zb) (_:¬za<0) (_:¬zb<0) (_:18446744073709551616≤za.natAbs*zb.natAbs) (_:IV w (.agg #[.int .i64 za,.bool false,.slice none 0 0]) za) (_:IV w (.agg #[.int .i64 zb,.bool false,.slice none 0 0]) zb) (_:Fit za) (_:Fit zb),Calls prog 129 #[.agg #[.int .i64 za,.bool false,.slice none 0 0],.agg #[.int .i64 zb,.bool false,.slice none 0 0]] w (cD (za*zb) w))∧
    (∀{za zb:Int} (w:World) (_:aV za) (_:aV zb) (_:¬za<0) (_:¬zb<0) (_:9223372036854775807<za.natAbs*zb.natAbs∧za.natAbs*zb.natAbs<18446744073709551616) (_:IV w (.agg #[.int .i64 za,.bool false,.slice none 0 0]) za) (_:IV w (.agg #[.int .i64 zb,.bool false,.slice none 0 0]) zb) (_:Fit za) (_:Fit zb),Calls prog 129 #[.agg #[.int .i64 za,.bool false,.slice none 0 0],.agg #[.int .i64 zb,.bool false,.slice none 0 0]] w (cD (za*zb) w))∧
    (∀{za zb:Int} (w:World) (_:aV za) (_:aV zb) (_:¬za<0) (_:zb<0) (_:18446744073709551616≤za.natAbs*zb.natAbs) (_:IV w (.agg #[.int .i64 za,.bool false,.slice none 0 0]) za) (_:IV w (.agg #[.int .i64 zb,.bool false,.slice none 0 0]) zb) (_:Fit za) (_:Fit zb),Calls prog 129 #[.agg #[.int .i64 za,.bool false,.slice none 0 0],.agg #[.int .i64 zb,.bool false,.slice none 0 0]] w (cD (za*zb) w))∧
    (∀{za zb:Int} (w:World) (_:aV za) (_:aV zb) (_:¬za<0) (_:zb<0) (_:9223372036854775807<za.natAbs*zb.natAbs∧za.natAbs*zb.natAbs<18446744073709551616) (_:IV w (.agg #[.int .i64 za,.bool false,.slice none 0 0]) za) (_:IV w (.agg #[.int .i64 zb,.bool false,.slice none 0 0]) zb) (_:Fit za) (_:Fit zb),Calls prog 129 #[.agg #[.int .i64 za,.bool false,.slice none 0 0],.agg #[.int .i64 zb,.bool false,.slice none 0 0]] w (cD (za*zb) w))∧
    (∀{za zb:Int} (w:World) (_:aV za) (_:aV zb) (_:za<0) (_:¬zb<0) (_:18446744073709551616≤za.natAbs*zb.natAbs) (_:IV w (.agg #[.int .i64 za,.bool false,.slice none 0 0]) za) (_:IV w (.agg #[.int .i64 zb,.bool false,.slice none 0 0]) zb) (_:Fit za) (_:Fit zb),Calls prog 129 #[.agg #[.int .i64 za,.bool false,.slice none 0 0],.agg #[.int .i64 zb,.bool false,.slice none 0 0]] w (cD (za*zb) w))∧
    (∀{za zb:Int} (w:World) (_:aV za) (_:aV zb) (_:za<0) (_:¬zb<0) (_:9223372036854775807<za.natAbs*zb.natAbs∧za.natAbs*zb.natAbs<18446744073709551616) (_:IV w (.agg #[.int .i64 za,.bool false,.slice none 0 0]) za) (_:IV w (.agg #[.int .i64 zb,.bool false,.slice none 0 0]) zb) (_:Fit za) (_:Fit zb),Calls prog 129 #[.agg #[.int .i64 za,.bool false,.slice none 0 0],.agg #[.int .i64 zb,.bool false,.slice none 0 0]] w (cD (za*zb) w))∧
    (∀{za zb:Int} (w:World) (_:aV za) (_:aV zb) (_:za<0) (_:zb<0) (_:18446744073709551616≤za.natAbs*zb.natAbs) (_:IV w (.agg #[.int .i64 za,.bool false,.slice none 0 0]) za) (_:IV w (.agg #[.int .i64 zb,.bool false,.slice none 0 0]) zb) (_:Fit za) (_:Fit zb),Calls prog 129 #[.agg #[.int .i64 za,.bool false,.slice none 0 0],.agg #[.int .i64 zb,.bool false,.slice none 0 0]] w (cD (za*zb) w))∧
    (∀{za zb:Int} (w:World) (_:aV za) (_:aV zb) (_:za<0) (_:zb<0) (_:9223372036854775807<za.natAbs*zb.natAbs∧za.natAbs*zb.natAbs<18446744073709551616) (_:IV w (.agg #[.int .i64 za,.bool false,.slice none 0 0]) za) (_:IV w (.agg #[.int .i64 zb,.bool false,.slice none 0 0]) zb) (_:Fit za) (_:Fit zb),Calls prog 129 #[.agg #[.int .i64 za,.bool false,.slice none 0 0],.agg #[.int .i64 zb,.bool false,.slice none 0 0]] w (cD (za*zb) w)):=by
 refine ⟨?g1,?g2,?g3,?g4,?g5,?g6,?g7,?g8⟩
 focus
  intro za zb w hza hzb ha0 hb0 hs ha hb fa fb
 rotate_left
 focus
  intro za zb w hza hzb ha0 hb0 hs ha hb fa fb
 rotate_left
 focus
  intro za zb w hza hzb ha0 hb0 hs ha hb fa fb
 rotate_left
 focus
  intro za zb w hza hzb ha0 hb0 hs ha hb fa fb
 rotate_left
 focus
  intro za zb w hza hzb ha0 hb0 hs ha hb fa fb
 rotate_left
 focus
  intro za zb w hza hzb ha0 hb0 hs ha hb fa fb
 rotate_left
 focus
  intro za zb w hza hzb ha0 hb0 hs ha hb fa fb
 rotate_left
 focus
  intro za zb w hza hzb ha0 hb0 hs ha hb fa fb
 rotate_left
 all_goals
  have kq0:=bJ;have hpa:=fun (W':World) (hB:Below w.heap.size w W')=>bd _ _ W' (ha.far hB)
  have hpb:=fun (W':World) (hB:Below w.heap.size w W')=>bd _ _ W' (hb.far hB)
  clear ha hb;obtain ⟨q1,q2⟩:=hza;obtain ⟨q3,q4⟩:=hzb
 focus
  have hda:decide (za<0)=false:=by simpa using ha0
  have hdb:decide (zb<0)=false:=by simpa using hb0
  have hx0:(0:Int)≤za:=by omega
  have hy0:(0:Int)≤zb:=by omega
  have hxm:za≤9223372036854775807:=by omega
  have hym:zb≤9223372036854775807:=by omega
 rotate_left
 focus
  have hda:decide (za<0)=false:=by simpa using ha0
  have hdb:decide (zb<0)=false:=by simpa using hb0
  have hx0:(0:Int)≤za:=by omega
  have hy0:(0:Int)≤zb:=by omega
  have hxm:za≤9223372036854775807:=by omega
  have hym:zb≤9223372036854775807:=by omega
 rotate_left
 focus
  have hda:decide (za<0)=false:=by simpa using ha0
  have hdb:decide (zb<0)=true:=by simpa using hb0
  have hx0:(0:Int)≤za:=by omega
  have hy0:(0:Int)≤-zb:=by omega
  have hxm:za≤9223372036854775807:=by omega
  have hym: -zb≤9223372036854775807:=by omega
 rotate_left
 focus
  have hda:decide (za<0)=false:=by simpa using ha0
  have hdb:decide (zb<0)=true:=by simpa using hb0
  have hx0:(0:Int)≤za:=by omega
  have hy0:(0:Int)≤-zb:=by omega
  have hxm:za≤9223372036854775807:=by omega
  have hym: -zb≤9223372036854775807:=by omega
 rotate_left
 focus
  have hda:decide (za<0)=true:=by simpa using ha0
  have hdb:decide (zb<0)=false:=by simpa using hb0
  have hx0:(0:Int)≤-za:=by omega
  have hy0:(0:Int)≤zb:=by omega
  have hxm: -za≤9223372036854775807:=by omega
  have hym:zb≤9223372036854775807:=by omega
 rotate_left
 focus
  have hda:decide (za<0)=true:=by simpa using ha0
  have hdb:decide (zb<0)=false:=by simpa using hb0
  have hx0:(0:Int)≤-za:=by omega
  have hy0:(0:Int)≤zb:=by omega
  have hxm: -za≤9223372036854775807:=by omega
  have hym:zb≤9223372036854775807:=by omega
 rotate_left
 focus
  have hda:decide (za<0)=true:=by simpa using ha0
  have hdb:decide (zb<0)=true:=by simpa using hb0
  have hx0:(0:Int)≤-za:=by omega
  have hy0:(0:Int)≤-zb:=by omega
  have hxm: -za≤9223372036854775807:=by omega
  have hym: -zb≤9223372036854775807:=by omega
 rotate_left
 focus
  have hda:decide (za<0)=true:=by simpa using ha0
  have hdb:decide (zb<0)=true:=by simpa using hb0
  have hx0:(0:Int)≤-za:=by omega
  have hy0:(0:Int)≤-zb:=by omega
  have hxm: -za≤9223372036854775807:=by omega
  have hym: -zb≤9223372036854775807:=by omega
 rotate_left
 all_goals
  obtain ⟨P,hP⟩:∃P,za.natAbs*zb.natAbs=P:=⟨_,rfl⟩
  obtain ⟨H,hH⟩:∃H,P / 18446744073709551616=H:=⟨_,rfl⟩
  obtain ⟨L,hL⟩:∃L,P % 18446744073709551616=L:=⟨_,rfl⟩
 focus
  have hml:=dk za.natAbs zb.natAbs (za) (zb) (by omega) (by omega) (by omega) (by omega) P H L hP hH hL
 rotate_left
 focus
  have hml:=dk za.natAbs zb.natAbs (za) (zb) (by omega) (by omega) (by omega) (by omega) P H L hP hH hL
 rotate_left
 focus
  have hml:=dk za.natAbs zb.natAbs (za) (-zb) (by omega) (by omega) (by omega) (by omega) P H L hP hH hL
 rotate_left
 focus
  have hml:=dk za.natAbs zb.natAbs (za) (-zb) (by omega) (by omega) (by omega) (by omega) P H L hP hH hL
 rotate_left
 focus
  have hml:=dk za.natAbs zb.natAbs (-za) (zb) (by omega) (by omega) (by omega) (by omega) P H L hP hH hL
 rotate_left
 focus
  have hml:=dk za.natAbs zb.natAbs (-za) (zb) (by omega) (by omega) (by omega) (by omega) P H L hP hH hL
 rotate_left
 focus
  have hml:=dk za.natAbs zb.natAbs (-za) (-zb) (by omega) (by omega) (by omega) (by omega) P H L hP hH hL
 rotate_left
 focus
  have hml:=dk za.natAbs zb.natAbs (-za) (-zb) (by omega) (by omega) (by omega) (by omega) P H L hP hH hL
 rotate_left
 all_goals
  rw[hP] at hs
 focus
  have hHz:((H:Int)==0)=false:=by simp;omega
 rotate_left
 focus
  have hHz:((H:Int)==0)=true:=by simp;omega
  have hLs:¬(L:Int)≤9223372036854775807:=by omega
 rotate_left
 focus
  have hHz:((H:Int)==0)=false:=by simp;omega
 rotate_left
 focus
  have hHz:((H:Int)==0)=true:=by simp;omega
  have hLs:¬(L:Int)≤9223372036854775807:=by omega
 rotate_left
 focus
  have hHz:((H:Int)==0)=false:=by simp;omega
 rotate_left
 focus
  have hHz:((H:Int)==0)=true:=by simp;omega
  have hLs:¬(L:Int)≤9223372036854775807:=by omega
 rotate_left
 focus
  have hHz:((H:Int)==0)=false:=by simp;omega
 rotate_left
 focus
  have hHz:((H:Int)==0)=true:=by simp;omega
  have hLs:¬(L:Int)≤9223372036854775807:=by omega
 rotate_left
 all_goals
  have HDA:=hid hda;have HDB:=hid hdb;clear hP hH hL hs hda hdb
  go_enter func129,ntmps129
  go_wp2
  go_quiet (fail)
  go_wp2_with fail
  refine (hml _).mono ?_;rintro e w1 ⟨rfl,rfl⟩;clear ha0 hb0 hx0 hy0 q1 q2 q3 q4 hxm hym hml
  go_wp2_with fail
  refine (hpa _ (aW (eT w _ _ _) _)).mono ?_;rintro e w1 ⟨va',la,rfl,hva,hna,hla,-,hb1⟩;have hlla:=gR hna hla fa;obtain ⟨hc1,hf1⟩:=cM hb1;have hz1:w.heap.size+2<w1.heap.size:=by have:=hb1.size;simp at this;omega
  have HB1:=hid ((aW (eT w _ _ _) _).trans (hb1.mono (by simp;omega)));have HR1:=hid ((hb1.block (w.heap.size+2) (by simp)).trans (ey w _ _ _));have HVA:=hid hva;have HLA:=hid hla;clear hb1 hva hna hla hpa
  go_wp2_with fail
  refine (hpb _ HB1.out).mono ?_;rintro e w2 ⟨vb',lb,rfl,hvb,hnb,hlb,-,hb2⟩;have hllb:=gR hnb hlb fb;obtain ⟨hc2,hf2⟩:=cM hb2;have hz2:w.heap.size+2<w2.heap.size:=by have:=hb2.size;omega
  have HB2:=hid (HB1.out.trans (hb2.mono HB1.out.size));have HR2:=hid ((hb2.block (w.heap.size+2) hz1).trans HR1.out);have HVA2:=hid (HVA.out.far hb2);have HVB:=hid hvb;have HLB:=hid hlb;clear hb2 hvb hnb hlb hpb HB1 HR1 HVA;have hmul:=j1 va' vb' la lb w2 HVA2.out HVB.out (by omega) (by omega)
  go_wp2_with fail
  refine hmul.mono ?_;rintro e w3 ⟨v3,l3,rfl,hv3,hw3,hl3,hb3⟩;have hfp:=cr (decide (za<0) !=decide (zb<0)) v3 l3 w3 hv3 (by omega);have HW3:=hid hw3;obtain ⟨hc3,hf3⟩:=cM hb3;have hz3:w.heap.size+2<w3.heap.size:=by have:=hb3.size;omega
  have HB3:=hid (HB2.out.trans (hb3.mono HB2.out.size));have HR3:=hid ((hb3.block (w.heap.size+2) hz2).trans HR2.out);clear hb3 hv3 hw3 hmul
  go_wp2_with fail
  refine hfp.mono ?_;rintro e w4 ⟨v4,rfl,hv4,hb4⟩;have HV4:=hid hv4;obtain ⟨s4,b4,a4,n4,c4,rfl⟩:=aY hv4;obtain ⟨hc4,hf4⟩:=cM hb4;have HB4:=hid (HB3.out.trans (hb4.mono HB3.out.size));have HR4:=hid ((hb4.block (w.heap.size+2) hz3).trans HR3.out)
  have HE:Hid (sgn (decide (za<0) !=decide (zb<0)) (wv l3)=za*zb):=hid (by
   rw[HW3.out,HLA.out,HLB.out,sgn_mul,lQ,lQ])
  clear hb4 hv4 hfp
  go_wp2
  rw[←HE.out];exact dH results129 rfl rfl HR4.out HV4.out HB4.out (by omega)
theorem uH (x y:Value) (za zb:Int) (w:World) (ha:IV w x za) (hb:IV w y zb) (fa:Fit za) (fb:Fit zb):Calls prog 129 #[x,y] w (cD (za*zb) w):=by
 rcases ha with ⟨rfl,h1⟩ | ⟨b1,g1,o1,c1,l1,rfl,h2,h3,h4⟩
 · rcases hb with ⟨rfl,k1⟩ | ⟨b2,g2,o2,c2,l2,rfl,k2,k3,k4⟩
   · by_cases hs:aV (za*zb)
     · by_cases ha0:za<0
       · by_cases hb0:zb<0
         · exact lR.2.2.2 w h1 k1 ha0 hb0 hs
         · exact lR.2.2.1 w h1 k1 ha0 hb0 hs
       · by_cases hb0:zb<0
         · exact lR.2.1 w h1 k1 ha0 hb0 hs
         · exact lR.1 w h1 k1 ha0 hb0 hs
     · have hm:9223372036854775807<za.natAbs*zb.natAbs:=by
         rw[←Int.natAbs_mul];unfold aV at hs;omega
       by_cases hh:18446744073709551616≤za.natAbs*zb.natAbs
       · by_cases ha0:za<0
         · by_cases hb0:zb<0
           · exact fP.2.2.2.2.2.2.1 w h1 k1 ha0 hb0 hh (.inl ⟨rfl,h1⟩) (.inl ⟨rfl,k1⟩) fa fb
           · exact fP.2.2.2.2.1 w h1 k1 ha0 hb0 hh (.inl ⟨rfl,h1⟩) (.inl ⟨rfl,k1⟩) fa fb
         · by_cases hb0:zb<0
           · exact fP.2.2.1 w h1 k1 ha0 hb0 hh (.inl ⟨rfl,h1⟩) (.inl ⟨rfl,k1⟩) fa fb
           · exact fP.1 w h1 k1 ha0 hb0 hh (.inl ⟨rfl,h1⟩) (.inl ⟨rfl,k1⟩) fa fb
       · have hh2:=And.intro hm (by omega:za.natAbs*zb.natAbs<18446744073709551616)
         by_cases ha0:za<0
         · by_cases hb0:zb<0
           · exact fP.2.2.2.2.2.2.2 w h1 k1 ha0 hb0 hh2 (.inl ⟨rfl,h1⟩) (.inl ⟨rfl,k1⟩) fa fb
           · exact fP.2.2.2.2.2.1 w h1 k1 ha0 hb0 hh2 (.inl ⟨rfl,h1⟩) (.inl ⟨rfl,k1⟩) fa fb
         · by_cases hb0:zb<0
           · exact fP.2.2.2.1 w h1 k1 ha0 hb0 hh2 (.inl ⟨rfl,h1⟩) (.inl ⟨rfl,k1⟩) fa fb
           · exact fP.2.1 w h1 k1 ha0 hb0 hh2 (.inl ⟨rfl,h1⟩) (.inl ⟨rfl,k1⟩) fa fb
   · exact ph.2.2 w (.inl ⟨rfl,h1⟩) (.inr ⟨b2,g2,o2,c2,l2,rfl,k2,k3,k4⟩) fa fb
 · rcases hb with ⟨rfl,k1⟩ | ⟨b2,g2,o2,c2,l2,rfl,k2,k3,k4⟩
   · exact ph.2.1 w (.inr ⟨b1,g1,o1,c1,l1,rfl,h2,h3,h4⟩) (.inl ⟨rfl,k1⟩) fa fb
   · exact ph.1 w (.inr ⟨b1,g1,o1,c1,l1,rfl,h2,h3,h4⟩) (.inr ⟨b2,g2,o2,c2,l2,rfl,k2,k3,k4⟩) fa fb
def cmpI (a b:Int):Int:=if a<b then -1 else if b<a then 1 else 0
theorem cH {a b:Int} {m n:Nat} (hm:m=a.natAbs) (hn:n=b.natAbs):(a<0→b<0→cmpI a b=eS n m)∧(¬a<0→¬b<0→cmpI a b=eS m n)∧(a<0→¬b<0→cmpI a b= -1)∧(¬a<0→b<0→cmpI a b=1):=by
 unfold cmpI eS;refine ⟨fun h1 h2=>?_,fun h1 h2=>?_,fun h1 h2=>?_,fun h1 h2=>?_⟩ <;> grind
theorem bE (w:World) (o o':Obj):Below w.heap.size w ((w.alloc o).alloc o'):=((am w.heap.size w).alloc (aj _) _).alloc (by simp) _
theorem AU {za zb:Int} (w:World) (hza:aV za) (hzb:aV zb):
    Calls prog 128 #[.agg #[.int .i64 za,.bool false,.slice none 0 0],.agg #[.int .i64 zb,.bool false,.slice none 0 0]] w fun e w'=>e=.returned (.int .i64 (cmpI za zb))∧Below w.heap.size w w':=by
 have kq0:=bJ;obtain ⟨q1,q2⟩:=hza;obtain ⟨q3,q4⟩:=hzb;rcases Int.lt_trichotomy za zb with h | h | h
 · have HR:Hid (cmpI za zb= -1):=hid (by unfold cmpI;rw[aF h])
   go_enter func128,ntmps128
   go_wp2
   go_ret
   exact ⟨ret_int HR.out.symm,bE w _ _⟩
 · have HR:Hid (cmpI za zb=0):=hid (by unfold cmpI;rw[aB (by omega),aB (by omega)]);subst h
   go_enter func128,ntmps128
   go_wp2
   go_ret
   exact ⟨ret_int HR.out.symm,bE w _ _⟩
 · have HR:Hid (cmpI za zb=1):=hid (by unfold cmpI;rw[aB (by omega),aF h]);have h1:¬za<zb:=by omega
   go_enter func128,ntmps128
   go_wp2
   go_ret
   exact ⟨ret_int HR.out.symm,bE w _ _⟩
theorem xD {za zb:Int} {b1 b2:Bool} {ad1 ad2:Addr} {n1 c1 n2 c2:Nat} (w:World) (ha:IV w (.agg #[.int .i64 0,.bool b1,.slice (some ad1) n1 c1]) za) (hb:IV w (.agg #[.int .i64 0,.bool b2,.slice (some ad2) n2 c2]) zb) (hda:za<0) (hdb:zb<0):
    Calls prog 128 #[.agg #[.int .i64 0,.bool b1,.slice (some ad1) n1 c1],.agg #[.int .i64 0,.bool b2,.slice (some ad2) n2 c2]] w fun e w'=>e=.returned (.int .i64 (cmpI za zb))∧Below w.heap.size w w':=by
 have kq:=cB;have kq0:=bJ;have hpa:=fun (W':World) (hB:Below w.heap.size w W')=>bd _ _ W' (ha.far hB)
 have hpb:=fun (W':World) (hB:Below w.heap.size w W')=>bd _ _ W' (hb.far hB)
 clear ha hb;have HAA:=hid hda;have HBB:=hid hdb;have hda':decide (za<0)=true:=by simpa using hda
 have hdb':decide (zb<0)=true:=by simpa using hdb
 clear hda hdb
 go_enter func128,ntmps128
 go_wp2_with fail
 refine (hpa _ (bE w _ _)).mono ?_;rintro e w1 ⟨va',la,rfl,hva,hna,hla,-,hb1⟩;obtain ⟨hc1,hf1⟩:=cM hb1;have hz1:w.heap.size+1<w1.heap.size:=by have:=hb1.size;simp at this;omega
 have HB1:=hid ((bE w _ _).trans (hb1.mono (by simp;omega)));have HVA:=hid hva;have HNA:=hid hna;have HLA:=hid hla;clear hb1 hva hna hla hpa
 go_wp2_with fail
 refine (hpb _ HB1.out).mono ?_;rintro e w2 ⟨vb',lb,rfl,hvb,hnb,hlb,-,hb2⟩;have HB2:=hid (HB1.out.trans (hb2.mono HB1.out.size));have HVA2:=hid (HVA.out.far hb2);have HVB:=hid hvb;have HNB:=hid hnb;have HLB:=hid hlb;clear hb2 hvb hnb hlb hpb HB1 HVA;have hcmp:=dW _ _ lb la w2 HVB.out HVA2.out HNB.out HNA.out;rw[←(cH HLA.out HLB.out).1 (by have:=HAA.out;omega) (by have:=HBB.out;omega)] at hcmp
 go_wp2_with fail
 refine hcmp.mono ?_;rintro e w3 ⟨rfl,hb3⟩
 go_wp2
 go_ret
 exact ⟨rfl,HB2.out.trans (hb3.mono HB2.out.size)⟩
theorem xE {za zb:Int} {b1 b2:Bool} {ad1 ad2:Addr} {n1 c1 n2 c2:Nat} (w:World) (ha:IV w (.agg #[.int .i64 0,.bool b1,.slice (some ad1) n1 c1]) za) (hb:IV w (.agg #[.int .i64 0,.bool b2,.slice (some ad2) n2 c2]) zb) (hda:¬za<0) (hdb:¬zb<0):
    Calls prog 128 #[.agg #[.int .i64 0,.bool b1,.slice (some ad1) n1 c1],.agg #[.int .i64 0,.bool b2,.slice (some ad2) n2 c2]] w fun e w'=>e=.returned (.int .i64 (cmpI za zb))∧Below w.heap.size w w':=by
 have kq:=cB;have kq0:=bJ;have hpa:=fun (W':World) (hB:Below w.heap.size w W')=>bd _ _ W' (ha.far hB)
 have hpb:=fun (W':World) (hB:Below w.heap.size w W')=>bd _ _ W' (hb.far hB)
 clear ha hb;have HAA:=hid hda;have HBB:=hid hdb;have hda':decide (za<0)=false:=by simpa using hda
 have hdb':decide (zb<0)=false:=by simpa using hdb
 clear hda hdb
 go_enter func128,ntmps128
 go_wp2_with fail
 refine (hpa _ (bE w _ _)).mono ?_;rintro e w1 ⟨va',la,rfl,hva,hna,hla,-,hb1⟩;obtain ⟨hc1,hf1⟩:=cM hb1;have hz1:w.heap.size+1<w1.heap.size:=by have:=hb1.size;simp at this;omega
 have HB1:=hid ((bE w _ _).trans (hb1.mono (by simp;omega)));have HVA:=hid hva;have HNA:=hid hna;have HLA:=hid hla;clear hb1 hva hna hla hpa
 go_wp2_with fail
 refine (hpb _ HB1.out).mono ?_;rintro e w2 ⟨vb',lb,rfl,hvb,hnb,hlb,-,hb2⟩;have HB2:=hid (HB1.out.trans (hb2.mono HB1.out.size));have HVA2:=hid (HVA.out.far hb2);have HVB:=hid hvb;have HNB:=hid hnb;have HLB:=hid hlb;clear hb2 hvb hnb hlb hpb HB1 HVA;have hcmp:=dW _ _ la lb w2 HVA2.out HVB.out HNA.out HNB.out;rw[←(cH HLA.out HLB.out).2.1 (by have:=HAA.out;omega) (by have:=HBB.out;omega)] at hcmp
 go_wp2_with fail
 refine hcmp.mono ?_;rintro e w3 ⟨rfl,hb3⟩
 go_wp2
 go_ret
 exact ⟨rfl,HB2.out.trans (hb3.mono HB2.out.size)⟩
theorem xF {za zb:Int} {b1 b2:Bool} {ad1 ad2:Addr} {n1 c1 n2 c2:Nat} (w:World) (ha:IV w (.agg #[.int .i64 0,.bool b1,.slice (some ad1) n1 c1]) za) (hb:IV w (.agg #[.int .i64 0,.bool b2,.slice (some ad2) n2 c2]) zb) (hda:za<0) (hdb:¬zb<0):
    Calls prog 128 #[.agg #[.int .i64 0,.bool b1,.slice (some ad1) n1 c1],.agg #[.int .i64 0,.bool b2,.slice (some ad2) n2 c2]] w fun e w'=>e=.returned (.int .i64 (cmpI za zb))∧Below w.heap.size w w':=by
 have kq:=cB;have kq0:=bJ;have hpa:=fun (W':World) (hB:Below w.heap.size w W')=>bd _ _ W' (ha.far hB)
 have hpb:=fun (W':World) (hB:Below w.heap.size w W')=>bd _ _ W' (hb.far hB)
 clear ha hb;have HAA:=hid hda;have HBB:=hid hdb;have hda':decide (za<0)=true:=by simpa using hda
 have hdb':decide (zb<0)=false:=by simpa using hdb
 clear hda hdb
 go_enter func128,ntmps128
 go_wp2_with fail
 refine (hpa _ (bE w _ _)).mono ?_;rintro e w1 ⟨va',la,rfl,hva,hna,hla,-,hb1⟩;obtain ⟨hc1,hf1⟩:=cM hb1;have hz1:w.heap.size+1<w1.heap.size:=by have:=hb1.size;simp at this;omega
 have HB1:=hid ((bE w _ _).trans (hb1.mono (by simp;omega)));have HVA:=hid hva;have HNA:=hid hna;have HLA:=hid hla;clear hb1 hva hna hla hpa
 go_wp2_with fail
 refine (hpb _ HB1.out).mono ?_;rintro e w2 ⟨vb',lb,rfl,hvb,hnb,hlb,-,hb2⟩;have HB2:=hid (HB1.out.trans (hb2.mono HB1.out.size));have HVA2:=hid (HVA.out.far hb2);have HVB:=hid hvb;have HNB:=hid hnb;have HLB:=hid hlb;clear hb2 hvb hnb hlb hpb HB1 HVA
 go_wp2
 go_ret
 exact ⟨ret_int ((cH HLA.out HLB.out).2.2.1 (by have:=HAA.out;omega) (by have:=HBB.out;omega)).symm,HB2.out⟩
theorem xG {za zb:Int} {b1 b2:Bool} {ad1 ad2:Addr} {n1 c1 n2 c2:Nat} (w:World) (ha:IV w (.agg #[.int .i64 0,.bool b1,.slice (some ad1) n1 c1]) za) (hb:IV w (.agg #[.int .i64 0,.bool b2,.slice (some ad2) n2 c2]) zb) (hda:¬za<0) (hdb:zb<0):
    Calls prog 128 #[.agg #[.int .i64 0,.bool b1,.slice (some ad1) n1 c1],.agg #[.int .i64 0,.bool b2,.slice (some ad2) n2 c2]] w fun e w'=>e=.returned (.int .i64 (cmpI za zb))∧Below w.heap.size w w':=by
 have kq:=cB;have kq0:=bJ;have hpa:=fun (W':World) (hB:Below w.heap.size w W')=>bd _ _ W' (ha.far hB)
 have hpb:=fun (W':World) (hB:Below w.heap.size w W')=>bd _ _ W' (hb.far hB)
 clear ha hb;have HAA:=hid hda;have HBB:=hid hdb;have hda':decide (za<0)=false:=by simpa using hda
 have hdb':decide (zb<0)=true:=by simpa using hdb
 clear hda hdb
 go_enter func128,ntmps128
 go_wp2_with fail
 refine (hpa _ (bE w _ _)).mono ?_;rintro e w1 ⟨va',la,rfl,hva,hna,hla,-,hb1⟩;obtain ⟨hc1,hf1⟩:=cM hb1;have hz1:w.heap.size+1<w1.heap.size:=by have:=hb1.size;simp at this;omega
 have HB1:=hid ((bE w _ _).trans (hb1.mono (by simp;omega)));have HVA:=hid hva;have HNA:=hid hna;have HLA:=hid hla;clear hb1 hva hna hla hpa
 go_wp2_with fail
 refine (hpb _ HB1.out).mono ?_;rintro e w2 ⟨vb',lb,rfl,hvb,hnb,hlb,-,hb2⟩;have HB2:=hid (HB1.out.trans (hb2.mono HB1.out.size));have HVA2:=hid (HVA.out.far hb2);have HVB:=hid hvb;have HNB:=hid hnb;have HLB:=hid hlb;clear hb2 hvb hnb hlb hpb HB1 HVA
 go_wp2
 go_ret
 exact ⟨ret_int ((cH HLA.out HLB.out).2.2.2 (by have:=HAA.out;omega) (by have:=HBB.out;omega)).symm,HB2.out⟩
theorem xH {za zb:Int} {b1:Bool} {ad1:Addr} {n1 c1:Nat} (w:World) (ha:IV w (.agg #[.int .i64 0,.bool b1,.slice (some ad1) n1 c1]) za) (hb:IV w (.agg #[.int .i64 zb,.bool false,.slice none 0 0]) zb) (hda:za<0) (hdb:zb<0):
    Calls prog 128 #[.agg #[.int .i64 0,.bool b1,.slice (some ad1) n1 c1],.agg #[.int .i64 zb,.bool false,.slice none 0 0]] w fun e w'=>e=.returned (.int .i64 (cmpI za zb))∧Below w.heap.size w w':=by
 have kq:=cB;have kq0:=bJ;have hpa:=fun (W':World) (hB:Below w.heap.size w W')=>bd _ _ W' (ha.far hB)
 have hpb:=fun (W':World) (hB:Below w.heap.size w W')=>bd _ _ W' (hb.far hB)
 clear ha hb;have HAA:=hid hda;have HBB:=hid hdb;have hda':decide (za<0)=true:=by simpa using hda
 have hdb':decide (zb<0)=true:=by simpa using hdb
 clear hda hdb
 go_enter func128,ntmps128
 go_wp2_with fail
 refine (hpa _ (bE w _ _)).mono ?_;rintro e w1 ⟨va',la,rfl,hva,hna,hla,-,hb1⟩;obtain ⟨hc1,hf1⟩:=cM hb1;have hz1:w.heap.size+1<w1.heap.size:=by have:=hb1.size;simp at this;omega
 have HB1:=hid ((bE w _ _).trans (hb1.mono (by simp;omega)));have HVA:=hid hva;have HNA:=hid hna;have HLA:=hid hla;clear hb1 hva hna hla hpa
 go_wp2_with fail
 refine (hpb _ HB1.out).mono ?_;rintro e w2 ⟨vb',lb,rfl,hvb,hnb,hlb,-,hb2⟩;have HB2:=hid (HB1.out.trans (hb2.mono HB1.out.size));have HVA2:=hid (HVA.out.far hb2);have HVB:=hid hvb;have HNB:=hid hnb;have HLB:=hid hlb;clear hb2 hvb hnb hlb hpb HB1 HVA;have hcmp:=dW _ _ lb la w2 HVB.out HVA2.out HNB.out HNA.out;rw[←(cH HLA.out HLB.out).1 (by have:=HAA.out;omega) (by have:=HBB.out;omega)] at hcmp
 go_wp2_with fail
 refine hcmp.mono ?_;rintro e w3 ⟨rfl,hb3⟩
 go_wp2
 go_ret
 exact ⟨rfl,HB2.out.trans (hb3.mono HB2.out.size)⟩
theorem xI {za zb:Int} {b1:Bool} {ad1:Addr} {n1 c1:Nat} (w:World) (ha:IV w (.agg #[.int .i64 0,.bool b1,.slice (some ad1) n1 c1]) za) (hb:IV w (.agg #[.int .i64 zb,.bool false,.slice none 0 0]) zb) (hda:¬za<0) (hdb:¬zb<0):
    Calls prog 128 #[.agg #[.int .i64 0,.bool b1,.slice (some ad1) n1 c1],.agg #[.int .i64 zb,.bool false,.slice none 0 0]] w fun e w'=>e=.returned (.int .i64 (cmpI za zb))∧Below w.heap.size w w':=by
 have kq:=cB;have kq0:=bJ;have hpa:=fun (W':World) (hB:Below w.heap.size w W')=>bd _ _ W' (ha.far hB)
 have hpb:=fun (W':World) (hB:Below w.heap.size w W')=>bd _ _ W' (hb.far hB)
 clear ha hb;have HAA:=hid hda;have HBB:=hid hdb;have hda':decide (za<0)=false:=by simpa using hda
 have hdb':decide (zb<0)=false:=by simpa using hdb
 clear hda hdb
 go_enter func128,ntmps128
 go_wp2_with fail
 refine (hpa _ (bE w _ _)).mono ?_;rintro e w1 ⟨va',la,rfl,hva,hna,hla,-,hb1⟩;obtain ⟨hc1,hf1⟩:=cM hb1;have hz1:w.heap.size+1<w1.heap.size:=by have:=hb1.size;simp at this;omega
 have HB1:=hid ((bE w _ _).trans (hb1.mono (by simp;omega)));have HVA:=hid hva;have HNA:=hid hna;have HLA:=hid hla;clear hb1 hva hna hla hpa
 go_wp2_with fail
 refine (hpb _ HB1.out).mono ?_;rintro e w2 ⟨vb',lb,rfl,hvb,hnb,hlb,-,hb2⟩;have HB2:=hid (HB1.out.trans (hb2.mono HB1.out.size));have HVA2:=hid (HVA.out.far hb2);have HVB:=hid hvb;have HNB:=hid hnb;have HLB:=hid hlb;clear hb2 hvb hnb hlb hpb HB1 HVA;have hcmp:=dW _ _ la lb w2 HVA2.out HVB.out HNA.out HNB.out;rw[←(cH HLA.out HLB.out).2.1 (by have:=HAA.out;omega) (by have:=HBB.out;omega)] at hcmp
 go_wp2_with fail
 refine hcmp.mono ?_;rintro e w3 ⟨rfl,hb3⟩
 go_wp2
 go_ret
 exact ⟨rfl,HB2.out.trans (hb3.mono HB2.out.size)⟩
theorem xJ {za zb:Int} {b1:Bool} {ad1:Addr} {n1 c1:Nat} (w:World) (ha:IV w (.agg #[.int .i64 0,.bool b1,.slice (some ad1) n1 c1]) za) (hb:IV w (.agg #[.int .i64 zb,.bool false,.slice none 0 0]) zb) (hda:za<0) (hdb:¬zb<0):
    Calls prog 128 #[.agg #[.int .i64 0,.bool b1,.slice (some ad1) n1 c1],.agg #[.int .i64 zb,.bool false,.slice none 0 0]] w fun e w'=>e=.returned (.int .i64 (cmpI za zb))∧Below w.heap.size w w':=by
 have kq:=cB;have kq0:=bJ;have hpa:=fun (W':World) (hB:Below w.heap.size w W')=>bd _ _ W' (ha.far hB)
 have hpb:=fun (W':World) (hB:Below w.heap.size w W')=>bd _ _ W' (hb.far hB)
 clear ha hb;have HAA:=hid hda;have HBB:=hid hdb;have hda':decide (za<0)=true:=by simpa using hda
 have hdb':decide (zb<0)=false:=by simpa using hdb
 clear hda hdb
 go_enter func128,ntmps128
 go_wp2_with fail
 refine (hpa _ (bE w _ _)).mono ?_;rintro e w1 ⟨va',la,rfl,hva,hna,hla,-,hb1⟩;obtain ⟨hc1,hf1⟩:=cM hb1;have hz1:w.heap.size+1<w1.heap.size:=by have:=hb1.size;simp at this;omega
 have HB1:=hid ((bE w _ _).trans (hb1.mono (by simp;omega)));have HVA:=hid hva;have HNA:=hid hna;have HLA:=hid hla;clear hb1 hva hna hla hpa
 go_wp2_with fail
 refine (hpb _ HB1.out).mono ?_;rintro e w2 ⟨vb',lb,rfl,hvb,hnb,hlb,-,hb2⟩;have HB2:=hid (HB1.out.trans (hb2.mono HB1.out.size));have HVA2:=hid (HVA.out.far hb2);have HVB:=hid hvb;have HNB:=hid hnb;have HLB:=hid hlb;clear hb2 hvb hnb hlb hpb HB1 HVA
 go_wp2
 go_ret
 exact ⟨ret_int ((cH HLA.out HLB.out).2.2.1 (by have:=HAA.out;omega) (by have:=HBB.out;omega)).symm,HB2.out⟩
theorem xK {za zb:Int} {b1:Bool} {ad1:Addr} {n1 c1:Nat} (w:World) (ha:IV w (.agg #[.int .i64 0,.bool b1,.slice (some ad1) n1 c1]) za) (hb:IV w (.agg #[.int .i64 zb,.bool false,.slice none 0 0]) zb) (hda:¬za<0) (hdb:zb<0):
    Calls prog 128 #[.agg #[.int .i64 0,.bool b1,.slice (some ad1) n1 c1],.agg #[.int .i64 zb,.bool false,.slice none 0 0]] w fun e w'=>e=.returned (.int .i64 (cmpI za zb))∧Below w.heap.size w w':=by
 have kq:=cB;have kq0:=bJ;have hpa:=fun (W':World) (hB:Below w.heap.size w W')=>bd _ _ W' (ha.far hB)
 have hpb:=fun (W':World) (hB:Below w.heap.size w W')=>bd _ _ W' (hb.far hB)
 clear ha hb;have HAA:=hid hda;have HBB:=hid hdb;have hda':decide (za<0)=false:=by simpa using hda
 have hdb':decide (zb<0)=true:=by simpa using hdb
 clear hda hdb
 go_enter func128,ntmps128
 go_wp2_with fail
 refine (hpa _ (bE w _ _)).mono ?_;rintro e w1 ⟨va',la,rfl,hva,hna,hla,-,hb1⟩;obtain ⟨hc1,hf1⟩:=cM hb1;have hz1:w.heap.size+1<w1.heap.size:=by have:=hb1.size;simp at this;omega
 have HB1:=hid ((bE w _ _).trans (hb1.mono (by simp;omega)));have HVA:=hid hva;have HNA:=hid hna;have HLA:=hid hla;clear hb1 hva hna hla hpa
 go_wp2_with fail
 refine (hpb _ HB1.out).mono ?_;rintro e w2 ⟨vb',lb,rfl,hvb,hnb,hlb,-,hb2⟩;have HB2:=hid (HB1.out.trans (hb2.mono HB1.out.size));have HVA2:=hid (HVA.out.far hb2);have HVB:=hid hvb;have HNB:=hid hnb;have HLB:=hid hlb;clear hb2 hvb hnb hlb hpb HB1 HVA
 go_wp2
 go_ret
 exact ⟨ret_int ((cH HLA.out HLB.out).2.2.2 (by have:=HAA.out;omega) (by have:=HBB.out;omega)).symm,HB2.out⟩
theorem xL {za zb:Int} {b2:Bool} {ad2:Addr} {n2 c2:Nat} (w:World) (ha:IV w (.agg #[.int .i64 za,.bool false,.slice none 0 0]) za) (hb:IV w (.agg #[.int .i64 0,.bool b2,.slice (some ad2) n2 c2]) zb) (hda:za<0) (hdb:zb<0):
    Calls prog 128 #[.agg #[.int .i64 za,.bool false,.slice none 0 0],.agg #[.int .i64 0,.bool b2,.slice (some ad2) n2 c2]] w fun e w'=>e=.returned (.int .i64 (cmpI za zb))∧Below w.heap.size w w':=by
 have kq:=cB;have kq0:=bJ;have hpa:=fun (W':World) (hB:Below w.heap.size w W')=>bd _ _ W' (ha.far hB)
 have hpb:=fun (W':World) (hB:Below w.heap.size w W')=>bd _ _ W' (hb.far hB)
 clear ha hb;have HAA:=hid hda;have HBB:=hid hdb;have hda':decide (za<0)=true:=by simpa using hda
 have hdb':decide (zb<0)=true:=by simpa using hdb
 clear hda hdb
 go_enter func128,ntmps128
 go_wp2_with fail
 refine (hpa _ (bE w _ _)).mono ?_;rintro e w1 ⟨va',la,rfl,hva,hna,hla,-,hb1⟩;obtain ⟨hc1,hf1⟩:=cM hb1;have hz1:w.heap.size+1<w1.heap.size:=by have:=hb1.size;simp at this;omega
 have HB1:=hid ((bE w _ _).trans (hb1.mono (by simp;omega)));have HVA:=hid hva;have HNA:=hid hna;have HLA:=hid hla;clear hb1 hva hna hla hpa
 go_wp2_with fail
 refine (hpb _ HB1.out).mono ?_;rintro e w2 ⟨vb',lb,rfl,hvb,hnb,hlb,-,hb2⟩;have HB2:=hid (HB1.out.trans (hb2.mono HB1.out.size));have HVA2:=hid (HVA.out.far hb2);have HVB:=hid hvb;have HNB:=hid hnb;have HLB:=hid hlb;clear hb2 hvb hnb hlb hpb HB1 HVA;have hcmp:=dW _ _ lb la w2 HVB.out HVA2.out HNB.out HNA.out;rw[←(cH HLA.out HLB.out).1 (by have:=HAA.out;omega) (by have:=HBB.out;omega)] at hcmp
 go_wp2_with fail
 refine hcmp.mono ?_;rintro e w3 ⟨rfl,hb3⟩
 go_wp2
 go_ret
 exact ⟨rfl,HB2.out.trans (hb3.mono HB2.out.size)⟩
theorem xM {za zb:Int} {b2:Bool} {ad2:Addr} {n2 c2:Nat} (w:World) (ha:IV w (.agg #[.int .i64 za,.bool false,.slice none 0 0]) za) (hb:IV w (.agg #[.int .i64 0,.bool b2,.slice (some ad2) n2 c2]) zb) (hda:¬za<0) (hdb:¬zb<0):
    Calls prog 128 #[.agg #[.int .i64 za,.bool false,.slice none 0 0],.agg #[.int .i64 0,.bool b2,.slice (some ad2) n2 c2]] w fun e w'=>e=.returned (.int .i64 (cmpI za zb))∧Below w.heap.size w w':=by
 have kq:=cB;have kq0:=bJ;have hpa:=fun (W':World) (hB:Below w.heap.size w W')=>bd _ _ W' (ha.far hB)
 have hpb:=fun (W':World) (hB:Below w.heap.size w W')=>bd _ _ W' (hb.far hB)
 clear ha hb;have HAA:=hid hda;have HBB:=hid hdb;have hda':decide (za<0)=false:=by simpa using hda
 have hdb':decide (zb<0)=false:=by simpa using hdb
 clear hda hdb
 go_enter func128,ntmps128
 go_wp2_with fail
 refine (hpa _ (bE w _ _)).mono ?_;rintro e w1 ⟨va',la,rfl,hva,hna,hla,-,hb1⟩;obtain ⟨hc1,hf1⟩:=cM hb1;have hz1:w.heap.size+1<w1.heap.size:=by have:=hb1.size;simp at this;omega
 have HB1:=hid ((bE w _ _).trans (hb1.mono (by simp;omega)));have HVA:=hid hva;have HNA:=hid hna;have HLA:=hid hla;clear hb1 hva hna hla hpa
 go_wp2_with fail
 refine (hpb _ HB1.out).mono ?_;rintro e w2 ⟨vb',lb,rfl,hvb,hnb,hlb,-,hb2⟩;have HB2:=hid (HB1.out.trans (hb2.mono HB1.out.size));have HVA2:=hid (HVA.out.far hb2);have HVB:=hid hvb;have HNB:=hid hnb;have HLB:=hid hlb;clear hb2 hvb hnb hlb hpb HB1 HVA;have hcmp:=dW _ _ la lb w2 HVA2.out HVB.out HNA.out HNB.out;rw[←(cH HLA.out HLB.out).2.1 (by have:=HAA.out;omega) (by have:=HBB.out;omega)] at hcmp
 go_wp2_with fail
 refine hcmp.mono ?_;rintro e w3 ⟨rfl,hb3⟩
 go_wp2
 go_ret
 exact ⟨rfl,HB2.out.trans (hb3.mono HB2.out.size)⟩
theorem xN {za zb:Int} {b2:Bool} {ad2:Addr} {n2 c2:Nat} (w:World) (ha:IV w (.agg #[.int .i64 za,.bool false,.slice none 0 0]) za) (hb:IV w (.agg #[.int .i64 0,.bool b2,.slice (some ad2) n2 c2]) zb) (hda:za<0) (hdb:¬zb<0):
    Calls prog 128 #[.agg #[.int .i64 za,.bool false,.slice none 0 0],.agg #[.int .i64 0,.bool b2,.slice (some ad2) n2 c2]] w fun e w'=>e=.returned (.int .i64 (cmpI za zb))∧Below w.heap.size w w':=by
 have kq:=cB;have kq0:=bJ;have hpa:=fun (W':World) (hB:Below w.heap.size w W')=>bd _ _ W' (ha.far hB)
 have hpb:=fun (W':World) (hB:Below w.heap.size w W')=>bd _ _ W' (hb.far hB)
 clear ha hb;have HAA:=hid hda;have HBB:=hid hdb;have hda':decide (za<0)=true:=by simpa using hda
 have hdb':decide (zb<0)=false:=by simpa using hdb
 clear hda hdb
 go_enter func128,ntmps128
 go_wp2_with fail
 refine (hpa _ (bE w _ _)).mono ?_;rintro e w1 ⟨va',la,rfl,hva,hna,hla,-,hb1⟩;obtain ⟨hc1,hf1⟩:=cM hb1;have hz1:w.heap.size+1<w1.heap.size:=by have:=hb1.size;simp at this;omega
 have HB1:=hid ((bE w _ _).trans (hb1.mono (by simp;omega)));have HVA:=hid hva;have HNA:=hid hna;have HLA:=hid hla;clear hb1 hva hna hla hpa
 go_wp2_with fail
 refine (hpb _ HB1.out).mono ?_;rintro e w2 ⟨vb',lb,rfl,hvb,hnb,hlb,-,hb2⟩;have HB2:=hid (HB1.out.trans (hb2.mono HB1.out.size));have HVA2:=hid (HVA.out.far hb2);have HVB:=hid hvb;have HNB:=hid hnb;have HLB:=hid hlb;clear hb2 hvb hnb hlb hpb HB1 HVA
 go_wp2
 go_ret
 exact ⟨ret_int ((cH HLA.out HLB.out).2.2.1 (by have:=HAA.out;omega) (by have:=HBB.out;omega)).symm,HB2.out⟩
theorem xO {za zb:Int} {b2:Bool} {ad2:Addr} {n2 c2:Nat} (w:World) (ha:IV w (.agg #[.int .i64 za,.bool false,.slice none 0 0]) za) (hb:IV w (.agg #[.int .i64 0,.bool b2,.slice (some ad2) n2 c2]) zb) (hda:¬za<0) (hdb:zb<0):
    Calls prog 128 #[.agg #[.int .i64 za,.bool false,.slice none 0 0],.agg #[.int .i64 0,.bool b2,.slice (some ad2) n2 c2]] w fun e w'=>e=.returned (.int .i64 (cmpI za zb))∧Below w.heap.size w w':=by
 have kq:=cB;have kq0:=bJ;have hpa:=fun (W':World) (hB:Below w.heap.size w W')=>bd _ _ W' (ha.far hB)
 have hpb:=fun (W':World) (hB:Below w.heap.size w W')=>bd _ _ W' (hb.far hB)
 clear ha hb;have HAA:=hid hda;have HBB:=hid hdb;have hda':decide (za<0)=false:=by simpa using hda
 have hdb':decide (zb<0)=true:=by simpa using hdb
 clear hda hdb
 go_enter func128,ntmps128
 go_wp2_with fail
 refine (hpa _ (bE w _ _)).mono ?_;rintro e w1 ⟨va',la,rfl,hva,hna,hla,-,hb1⟩;obtain ⟨hc1,hf1⟩:=cM hb1;have hz1:w.heap.size+1<w1.heap.size:=by have:=hb1.size;simp at this;omega
 have HB1:=hid ((bE w _ _).trans (hb1.mono (by simp;omega)));have HVA:=hid hva;have HNA:=hid hna;have HLA:=hid hla;clear hb1 hva hna hla hpa
 go_wp2_with fail
 refine (hpb _ HB1.out).mono ?_;rintro e w2 ⟨vb',lb,rfl,hvb,hnb,hlb,-,hb2⟩;have HB2:=hid (HB1.out.trans (hb2.mono HB1.out.size));have HVA2:=hid (HVA.out.far hb2);have HVB:=hid hvb;have HNB:=hid hnb;have HLB:=hid hlb;clear hb2 hvb hnb hlb hpb HB1 HVA
 go_wp2
 go_ret
 exact ⟨ret_int ((cH HLA.out HLB.out).2.2.2 (by have:=HAA.out;omega) (by have:=HBB.out;omega)).symm,HB2.out⟩
theorem uI (x y:Value) (za zb:Int) (w:World) (ha:IV w x za) (hb:IV w y zb):Calls prog 128 #[x,y] w fun e w'=>e=.returned (.int .i64 (cmpI za zb))∧Below w.heap.size w w':=by
 rcases ha with ⟨rfl,p1⟩ | ⟨b1,g1,o1,c1,l1,rfl,p2,p3,p4⟩
 · rcases hb with ⟨rfl,k1⟩ | ⟨b2,g2,o2,c2,l2,rfl,k2,k3,k4⟩
   · exact AU w p1 k1
   · by_cases h1:za<0
     · by_cases h2:zb<0
       · exact xL w (.inl ⟨rfl,p1⟩) (.inr ⟨b2,g2,o2,c2,l2,rfl,k2,k3,k4⟩) h1 h2
       · exact xN w (.inl ⟨rfl,p1⟩) (.inr ⟨b2,g2,o2,c2,l2,rfl,k2,k3,k4⟩) h1 h2
     · by_cases h2:zb<0
       · exact xO w (.inl ⟨rfl,p1⟩) (.inr ⟨b2,g2,o2,c2,l2,rfl,k2,k3,k4⟩) h1 h2
       · exact xM w (.inl ⟨rfl,p1⟩) (.inr ⟨b2,g2,o2,c2,l2,rfl,k2,k3,k4⟩) h1 h2
 · rcases hb with ⟨rfl,k1⟩ | ⟨b2,g2,o2,c2,l2,rfl,k2,k3,k4⟩
   · by_cases h1:za<0
     · by_cases h2:zb<0
       · exact xH w (.inr ⟨b1,g1,o1,c1,l1,rfl,p2,p3,p4⟩) (.inl ⟨rfl,k1⟩) h1 h2
       · exact xJ w (.inr ⟨b1,g1,o1,c1,l1,rfl,p2,p3,p4⟩) (.inl ⟨rfl,k1⟩) h1 h2
     · by_cases h2:zb<0
       · exact xK w (.inr ⟨b1,g1,o1,c1,l1,rfl,p2,p3,p4⟩) (.inl ⟨rfl,k1⟩) h1 h2
       · exact xI w (.inr ⟨b1,g1,o1,c1,l1,rfl,p2,p3,p4⟩) (.inl ⟨rfl,k1⟩) h1 h2
   · by_cases h1:za<0
     · by_cases h2:zb<0
       · exact xD w (.inr ⟨b1,g1,o1,c1,l1,rfl,p2,p3,p4⟩) (.inr ⟨b2,g2,o2,c2,l2,rfl,k2,k3,k4⟩) h1 h2
       · exact xF w (.inr ⟨b1,g1,o1,c1,l1,rfl,p2,p3,p4⟩) (.inr ⟨b2,g2,o2,c2,l2,rfl,k2,k3,k4⟩) h1 h2
     · by_cases h2:zb<0
       · exact xG w (.inr ⟨b1,g1,o1,c1,l1,rfl,p2,p3,p4⟩) (.inr ⟨b2,g2,o2,c2,l2,rfl,k2,k3,k4⟩) h1 h2
       · exact xE w (.inr ⟨b1,g1,o1,c1,l1,rfl,p2,p3,p4⟩) (.inr ⟨b2,g2,o2,c2,l2,rfl,k2,k3,k4⟩) h1 h2
def kN (za zb:Int) (w:World) (e:Ending) (w':World):Prop:=∃v1 v2,e=.returned (.tuple #[v1,v2])∧IV w' v1 (za / zb)∧IV w' v2 (za % zb)∧Below w.heap.size w w'
theorem tc {a b:Int} (hb:b≠0):(0≤a.tmod b→a / b=a.tdiv b∧a % b=a.tmod b)∧(a.tmod b<0→0<b→a / b=a.tdiv b-1∧a % b=a.tmod b+b)∧(a.tmod b<0→b<0→a / b=a.tdiv b+1∧a % b=a.tmod b-b):=by
 have h1:=Int.tdiv_mul_add_tmod a b;have h2:=Int.emod_nonneg a hb;have h3:=Int.emod_lt_of_pos
 have key:∀q r:Int,q*b+r=a→0≤r→r<b.natAbs→a / b=q∧a % b=r:=by
  intro q r e hr hl;have e2:a=r+b*q:=by rw[←e,Int.mul_comm];omega
  have e3:r / b=0∧r % b=r:=by
   rcases Int.lt_or_gt_of_ne hb with hn | hp
   · have:r / (-b)=0:=Int.ediv_eq_zero_of_lt hr (by omega);have h4:r % (-b)=r:=Int.emod_eq_of_lt hr (by omega);rw[Int.ediv_neg] at this;rw[Int.emod_neg] at h4;exact ⟨by omega,h4⟩
   · exact ⟨Int.ediv_eq_zero_of_lt hr (by omega),Int.emod_eq_of_lt hr (by omega)⟩
  rw[e2];refine ⟨?_,?_⟩
  · rw[Int.add_mul_ediv_left _ _ hb,e3.1,Int.zero_add]
  · rw[Int.add_mul_emod_self_left,e3.2]
 have hlt:(a.tmod b).natAbs<b.natAbs:=by rw[Int.natAbs_tmod];exact Nat.mod_lt _ (by omega)
 refine ⟨fun h=>key _ _ h1 h (by omega),fun h hp=>key _ _ ?_ (by omega) (by omega),fun h hn=>key _ _ ?_ (by omega) (by omega)⟩
 · rw[Int.sub_mul];omega
 · rw[Int.add_mul];omega
theorem te {a b:Int} (ha:aV a):aV (a / b):=by
 have h:=Int.natAbs_ediv_le_natAbs a b;unfold aV at *
 omega
theorem tg {a b:Int} (hb0:aV b) (hb:b≠0):aV (a % b):=by
 have h1:=Int.emod_nonneg a hb;have h2:a % b<b.natAbs:=Int.emod_lt a hb;unfold aV at *
 omega
theorem dL (w:World) (o o' o2 o3:Obj):((((w.alloc o).alloc o').alloc o2).alloc o3).heap[w.heap.size+3]? =some o3∧((((w.alloc o).alloc o').alloc o2).alloc o3).heap[w.heap.size+2]? =some o2:=by
 refine ⟨?_,?_⟩
 · have:=aq (((w.alloc o).alloc o').alloc o2) o3
   simpa using this
 · rw[Below.heap_alloc _ _ _ (by simp)];exact ey w o o' o2
theorem pi (w:World) (o o' o2 o3:Obj):Below w.heap.size w ((((w.alloc o).alloc o').alloc o2).alloc o3):=(eT w o o' o2).alloc (by simp;omega) _
theorem gS {fn:Func} {t t':Tmp} {a:Act} {w w2:World} {R R':Nat} {za zb z z' s s':Int} {b b':Bool} {ao ao':Option Addr} {n c n' c':Nat} {x0 x1 x2 y0 y1 y2:Value} (hres:fn.results=#[.cell t 73,.cell t' 73]) (hd:a.defers=[])
    (ht:a.tmps.getD t undef=.pointer (some ⟨R,0,none⟩)) (ht':a.tmps.getD t' undef=.pointer (some ⟨R',0,none⟩))
    (hR:w2.heap[R]? =some (.cells #[x0,x1,x2] 73 (0,0))) (hR':w2.heap[R']? =some (.cells #[y0,y1,y2] 73 (0,0))) (hne:R≠R')
    (hv:IV w2 (.agg #[.int .i64 s,.bool b,.slice ao n c]) z) (hv':IV w2 (.agg #[.int .i64 s',.bool b',.slice ao' n' c']) z') (hz:za / zb=z) (hz':za % zb=z') (hb:Below w.heap.size w w2) (hRB:w.heap.size≤R) (hRB':w.heap.size≤R'):
    bodyPost prog fn (kN za zb w) .ret a ((((((w2.setCell ⟨R,0,none⟩ (.int .i64 s)).setCell ⟨R,1,none⟩ (.bool b)).setCell ⟨R,2,none⟩ (.slice ao n c)).setCell ⟨R',0,none⟩ (.int .i64 s')).setCell ⟨R',1,none⟩ (.bool b')).setCell ⟨R',2,none⟩ (.slice ao' n' c')):=by
 subst hz hz';have h3:=heap_set (heap_set (heap_set hR 0 (.int .i64 s)) 1 (.bool b)) 2 (.slice ao n c);have hiv:=hv.set3 hR (.int .i64 s) (.bool b) (.slice ao n c);have hiv':=hv'.set3 hR (.int .i64 s) (.bool b) (.slice ao n c)
 have hR2:(set3 w2 R (.int .i64 s) (.bool b) (.slice ao n c)).heap[R']? =some (.cells #[y0,y1,y2] 73 (0,0)):=by
  unfold set3;rw[aG _ _ _ _ (Ne.symm hne),aG _ _ _ _ (Ne.symm hne),aG _ _ _ _ (Ne.symm hne)];exact hR'
 have hbl:=((hb.setCell (show w.heap.size≤(⟨R,0,none⟩:Addr).block from hRB) (.int .i64 s)).setCell (show w.heap.size≤(⟨R,1,none⟩:Addr).block from hRB) (.bool b)).setCell (show w.heap.size≤(⟨R,2,none⟩:Addr).block from hRB) (.slice ao n c);unfold set3 at hiv hiv' hR2;generalize ((w2.setCell ⟨R,0,none⟩ (.int .i64 s)).setCell ⟨R,1,none⟩ (.bool b)).setCell ⟨R,2,none⟩ (.slice ao n c)=w3 at *;have g3:=heap_set (heap_set (heap_set hR2 0 (.int .i64 s')) 1 (.bool b')) 2 (.slice ao' n' c');have giv:=hiv.set3 hR2 (.int .i64 s') (.bool b') (.slice ao' n' c');have giv':=hiv'.set3 hR2 (.int .i64 s') (.bool b') (.slice ao' n' c')
 have h4:(set3 w3 R' (.int .i64 s') (.bool b') (.slice ao' n' c')).heap[R]? =w3.heap[R]? :=by
  unfold set3;rw[aG _ _ _ _ hne,aG _ _ _ _ hne,aG _ _ _ _ hne]
 rw[h3] at h4;have gbl:=((hbl.setCell (show w.heap.size≤(⟨R',0,none⟩:Addr).block from hRB') (.int .i64 s')).setCell (show w.heap.size≤(⟨R',1,none⟩:Addr).block from hRB') (.bool b')).setCell (show w.heap.size≤(⟨R',2,none⟩:Addr).block from hRB') (.slice ao' n' c');unfold set3 at giv giv' h4;generalize ((w3.setCell ⟨R',0,none⟩ (.int .i64 s')).setCell ⟨R',1,none⟩ (.bool b')).setCell ⟨R',2,none⟩ (.slice ao' n' c')=w4 at *;have k0:=aa h4 0;have k1:=aa h4 1;have k2:=aa h4 2;have l0:=aa g3 0;have l1:=aa g3 1;have l2:=aa g3 2
 simp at k0 k1 k2 l0 l1 l2
 refine bodyPost_ret (v:=.tuple #[.agg #[.int .i64 s,.bool b,.slice ao n c],.agg #[.int .i64 s',.bool b',.slice ao' n' c']]) ?_ hd ⟨_,_,rfl,giv,giv',gbl⟩;have ht1:a.tmps[t]?.getD undef=.pointer (some ⟨R,0,none⟩):=by simpa using ht
 have ht2:a.tmps[t']?.getD undef=.pointer (some ⟨R',0,none⟩):=by simpa using ht'
 simp[results,hres,go_sem,ht1,ht2,k0,k1,k2,l0,l1,l2]
theorem oo {za zb:Int} (w:World) (hza:aV za) (hzb:aV zb) (h0:zb≠0):
    Calls prog 127 #[.agg #[.int .i64 za,.bool false,.slice none 0 0],.agg #[.int .i64 zb,.bool false,.slice none 0 0]] w (kN za zb w):=by
 have kq0:=bJ;have hds:=te (b:=zb) hza;have hms:=tg (a:=za) hzb h0;obtain ⟨t1,t2,t3⟩:=tc (a:=za) h0;have T1:=hid t1;have T2:=hid t2;have T3:=hid t3;have h0b:(zb==0)=false:=by simpa using h0
 have hqa:(za.tdiv zb).natAbs≤za.natAbs:=by rw[Int.natAbs_tdiv];exact Nat.div_le_self _ _
 have hra:(za.tmod zb).natAbs<zb.natAbs:=by rw[Int.natAbs_tmod];exact Nat.mod_lt _ (by omega)
 have DS:=hid hds;have MS:=hid hms;obtain ⟨q1,q2⟩:=hza;obtain ⟨q3,q4⟩:=hzb;clear t1 t2 t3 hds hms;obtain ⟨Q,hQ⟩:∃Q,za.tdiv zb=Q:=⟨_,rfl⟩
 obtain ⟨R,hR⟩:∃R,za.tmod zb=R:=⟨_,rfl⟩
 have b1: -9223372036854775807≤Q:=by omega
 have b2:Q≤9223372036854775807:=by omega
 have b3: -9223372036854775807≤R:=by omega
 have b4:R≤9223372036854775807:=by omega
 have b5:=hra;rw[hR] at b5;clear hqa hra
 by_cases hr:R<0
 · by_cases hp:0<zb
   · have HE:Hid (za / zb=Q-1∧za % zb=R+zb):=hid (by have:=T2.out (by rw[hR];exact hr) hp;rw[hQ,hR] at this;exact this);have HS1:Hid (aV (Q-1)):=hid (by have:=DS.out;rw[HE.out.1] at this;exact this);have HS2:Hid (aV (R+zb)):=hid (by have:=MS.out;rw[HE.out.2] at this;exact this);obtain ⟨v1,v2⟩:=HS1.out;obtain ⟨v3,v4⟩:=HS2.out
     go_enter func127,ntmps127
     go_wp2
     go_quiet (fail)
     go_wp2
     go_quiet (fail)
     go_wp2
     exact gS results127 rfl rfl rfl (dL w _ _ _ _).2 (dL w _ _ _ _).1 (by omega) (cw _ HS1.out) (cw _ HS2.out) HE.out.1 HE.out.2 (aW (pi w _ _ _ _) _) (by omega) (by omega)
   · have hp2:zb<0:=by omega
     have HE:Hid (za / zb=Q+1∧za % zb=R-zb):=hid (by have:=T3.out (by rw[hR];exact hr) hp2;rw[hQ,hR] at this;exact this);have HS1:Hid (aV (Q+1)):=hid (by have:=DS.out;rw[HE.out.1] at this;exact this);have HS2:Hid (aV (R-zb)):=hid (by have:=MS.out;rw[HE.out.2] at this;exact this);obtain ⟨v1,v2⟩:=HS1.out;obtain ⟨v3,v4⟩:=HS2.out
     go_enter func127,ntmps127
     go_wp2
     go_quiet (fail)
     go_wp2
     go_quiet (fail)
     go_wp2
     exact gS results127 rfl rfl rfl (dL w _ _ _ _).2 (dL w _ _ _ _).1 (by omega) (cw _ HS1.out) (cw _ HS2.out) HE.out.1 HE.out.2 (aW (pi w _ _ _ _) _) (by omega) (by omega)
 · have HE:Hid (za / zb=Q∧za % zb=R):=hid (by have:=T1.out (by rw[hR];omega);rw[hQ,hR] at this;exact this);have HS1:Hid (aV (Q)):=hid (by have:=DS.out;rw[HE.out.1] at this;exact this);have HS2:Hid (aV (R)):=hid (by have:=MS.out;rw[HE.out.2] at this;exact this)
   go_enter func127,ntmps127
   go_wp2
   go_quiet (fail)
   go_wp2
   exact gS results127 rfl rfl rfl (dL w _ _ _ _).2 (dL w _ _ _ _).1 (by omega) (cw _ HS1.out) (cw _ HS2.out) HE.out.1 HE.out.2 (aW (pi w _ _ _ _) _) (by omega) (by omega)
theorem iv_small {w:World} {v:Value} {z:Int} (h:IV w v z) (hs:aV z):v=cV z:=by
 rcases h with ⟨h,_⟩ | ⟨b,g,off,cap,l,_,_,h3,rfl⟩
 · exact h
 · exact absurd hs (jb h3).1
def Two (w:World) (g h:Nat) (a0 a1 a2 b0 b1 b2:Value):Prop:=
 w.cell? ⟨g,0,none⟩=some a0∧w.cell? ⟨g,1,none⟩=some a1∧w.cell? ⟨g,2,none⟩=some a2∧w.cell? ⟨h,0,none⟩=some b0∧w.cell? ⟨h,1,none⟩=some b1∧w.cell? ⟨h,2,none⟩=some b2
theorem Two.far {W w1:World} {g h:Nat} {a0 a1 a2 b0 b1 b2:Value} (hb:Below W.heap.size W w1) (hg:g<W.heap.size) (hh:h<W.heap.size) (k:Two W g h a0 a1 a2 b0 b1 b2):Two w1 g h a0 a1 a2 b0 b1 b2:=by
 obtain ⟨k0,k1,k2,k3,k4,k5⟩:=k;have f:∀b o,b<W.heap.size→w1.cell? ⟨b,o,none⟩=W.cell? ⟨b,o,none⟩:=(cM hb).1;exact ⟨(f _ _ hg).trans k0,(f _ _ hg).trans k1,(f _ _ hg).trans k2,(f _ _ hh).trans k3,(f _ _ hh).trans k4,(f _ _ hh).trans k5⟩
theorem ff {w:World} {R g:Nat} (h:g≠R) (x y z:Value) (i:Nat):(((w.setCell ⟨R,0,none⟩ x).setCell ⟨R,1,none⟩ y).setCell ⟨R,2,none⟩ z).cell? ⟨g,i,none⟩=w.cell? ⟨g,i,none⟩:=by
 apply World.cell?_of_block;show (((w.setCell ⟨R,0,none⟩ x).setCell ⟨R,1,none⟩ y).setCell ⟨R,2,none⟩ z).heap[g]? =w.heap[g]?;rw[aG _ _ _ _ h,aG _ _ _ _ h,aG _ _ _ _ h]
theorem Two.set {w:World} {g h R:Nat} {a0 a1 a2 b0 b1 b2:Value} (k:Two w g h a0 a1 a2 b0 b1 b2) (hg:g≠R) (hh:h≠R) (x y z:Value):Two (((w.setCell ⟨R,0,none⟩ x).setCell ⟨R,1,none⟩ y).setCell ⟨R,2,none⟩ z) g h a0 a1 a2 b0 b1 b2:=by
 obtain ⟨k0,k1,k2,k3,k4,k5⟩:=k;exact ⟨(ff hg _ _ _ 0).trans k0,(ff hg _ _ _ 1).trans k1,(ff hg _ _ _ 2).trans k2,(ff hh _ _ _ 0).trans k3,(ff hh _ _ _ 1).trans k4,(ff hh _ _ _ 2).trans k5⟩
theorem Res.cells {w:World} {R:Nat} (h:w.heap[R]? =some (.cells #[.int .i64 0,.bool false,.slice none 0 0] 73 (0,0))):w.cell? ⟨R,0,none⟩=some (.int .i64 0)∧w.cell? ⟨R,1,none⟩=some (.bool false)∧w.cell? ⟨R,2,none⟩=some (.slice none 0 0)∧w.frozen? ⟨R,0,none⟩=false∧w.frozen? ⟨R,1,none⟩=false∧w.frozen? ⟨R,2,none⟩=false:=
 ⟨aa h 0,aa h 1,aa h 2,aK h 0,aK h 1,aK h 2⟩
theorem zg {z:Int} (h:Fit z):Fit (-z):=by unfold Fit at *;rw[Int.natAbs_neg];exact h
theorem pj (x y:Value) (za zb:Int) (w:World) (ha:IV w x za) (hb:IV w y zb) (fa:Fit za) (fb:Fit zb):Calls prog 181 #[x,y] w (cD (za-zb) w):=by
 have hng:=fun (W':World) (hB:Below w.heap.size w W')=>o8 y zb W' (hb.far hB)
 have hadd:=fun (W':World) (v:Value) (hB:Below w.heap.size w W') (hv:IV W' v (-zb))=>uG x v za (-zb) W' (ha.far hB) hv fa (zg fb)
 obtain ⟨s1,b1,a1,n1,c1,rfl⟩:=aY ha;obtain ⟨s2,b2,a2,n2,c2,rfl⟩:=aY hb;clear ha hb
 go_enter func181,ntmps181
 go_wp2
 go_region_held3 (fun w'=>w'.cell? ⟨w.heap.size,0,none⟩=some (.int .i64 s1)∧w'.cell? ⟨w.heap.size,1,none⟩=some (.bool b1)∧w'.cell? ⟨w.heap.size,2,none⟩=some (.slice a1 n1 c1)∧w'.cell? ⟨w.heap.size+1,0,none⟩=some (.int .i64 s2)∧w'.cell? ⟨w.heap.size+1,1,none⟩=some (.bool b2)∧w'.cell? ⟨w.heap.size+1,2,none⟩=some (.slice a2 n2 c2))
  (first | exact K1 | exact K2 | exact Two.set (h:=w.heap.size+1) K2 (Nat.ne_of_lt (by omega)) (Nat.ne_of_lt (by omega)) _ _ _ | go_keep)
  (first
    | (go_at_call 176
       refine (hng _ (aW (eT w _ _ _) _)).mono ?_;rintro e w1 ⟨v1,rfl,hv1,hb1⟩;have K1:Two w1 w.heap.size (w.heap.size+1) (.int .i64 s1) (.bool b1) (.slice a1 n1 c1) (.int .i64 s2) (.bool b2) (.slice a2 n2 c2):=Two.far hb1 (by simp;omega) (by simp) (by unfold Two;assumption);have hz1:w.heap.size+2<w1.heap.size:=by have:=hb1.size;simp at this;omega
       have HR1:=hid ((hb1.block (w.heap.size+2) (by simp)).trans (ey w _ _ _));have HB1:=hid ((aW (eT w _ _ _) _).trans (hb1.mono (by simp;omega)));have HV1:=hid hv1
       obtain ⟨s3,b3,a3,n3,c3,rfl⟩:=aY hv1)
    | (go_at_call 179
       refine (hadd _ _ HB1.out HV1.out).mono ?_;rintro e w2 ⟨v2,rfl,hv2,hb2⟩;have K2:Two w2 w.heap.size (w.heap.size+1) (.int .i64 s1) (.bool b1) (.slice a1 n1 c1) (.int .i64 s2) (.bool b2) (.slice a2 n2 c2):=Two.far hb2 (by omega) (by omega) K1;have HR2:=hid ((hb2.block (w.heap.size+2) hz1).trans HR1.out);have HB2:=hid (HB1.out.trans (hb2.mono HB1.out.size));have HV2:=hid hv2;obtain ⟨s4,b4,a4,n4,c4,rfl⟩:=aY hv2
       obtain ⟨r0,r1,r2,r3,r4,r5⟩:=Res.cells (R:=w.heap.size+1+1) HR2.out))
 go_wp2
 rw[Int.sub_eq_add_neg];exact dH results181 rfl rfl HR2.out HV2.out HB2.out (by omega)
theorem Cells.of {w:World} {R:Nat} {t:TypeId} {x y z:Value} (h:w.heap[R]? =some (.cells #[x,y,z] t (0,0))):w.cell? ⟨R,0,none⟩=some x∧w.cell? ⟨R,1,none⟩=some y∧w.cell? ⟨R,2,none⟩=some z∧w.frozen? ⟨R,0,none⟩=false∧w.frozen? ⟨R,1,none⟩=false∧w.frozen? ⟨R,2,none⟩=false:=
 ⟨aa h 0,aa h 1,aa h 2,aK h 0,aK h 1,aK h 2⟩
theorem BU (w:World) (o o' o2:Obj):(((w.alloc o).alloc o').alloc o2).heap[w.heap.size]? =some o∧(((w.alloc o).alloc o').alloc o2).heap[w.heap.size+1]? =some o'∧(((w.alloc o).alloc o').alloc o2).heap[w.heap.size+2]? =some o2:=by
 refine ⟨?_,?_,ey w o o' o2⟩
 · rw[Below.heap_alloc _ _ _ (by simp;omega),Below.heap_alloc _ _ _ (by simp)];exact aq w o
 · rw[Below.heap_alloc _ _ _ (by simp)];exact bM w o o'
theorem je {w:World} {R:Nat} {x y z a b c:Value} {t:TypeId} (h:w.heap[R]? =some (.cells #[a,b,c] t (0,0))):(((w.setCell ⟨R,0,none⟩ x).setCell ⟨R,1,none⟩ y).setCell ⟨R,2,none⟩ z).heap[R]? =some (.cells #[x,y,z] t (0,0)):=by
 have:=heap_set (heap_set (heap_set h 0 x) 1 y) 2 z
 simpa using this
theorem cJ {w:World} {R g:Nat} (x y z:Value) (h:g≠R):(((w.setCell ⟨R,0,none⟩ x).setCell ⟨R,1,none⟩ y).setCell ⟨R,2,none⟩ z).heap[g]? =w.heap[g]? :=by
 rw[aG _ _ _ _ h,aG _ _ _ _ h,aG _ _ _ _ h]
def fE (q:Rat):Int:=if q.den=1 then 0 else q.den
def RV (w:World) (v:Value) (q:Rat):Prop:=∃s1 b1 a1 n1 c1 s2 b2 a2 n2 c2,v=.agg #[.int .i64 s1,.bool b1,.slice a1 n1 c1,.int .i64 s2,.bool b2,.slice a2 n2 c2]∧IV w (.agg #[.int .i64 s1,.bool b1,.slice a1 n1 c1]) q.num∧IV w (.agg #[.int .i64 s2,.bool b2,.slice a2 n2 c2]) (fE q)
theorem RV.far {w w':World} {v:Value} {q:Rat} (h:RV w v q) (hb:Below w.heap.size w w'):RV w' v q:=
 let ⟨s1,b1,a1,n1,c1,s2,b2,a2,n2,c2,e,h1,h2⟩:=h
 ⟨s1,b1,a1,n1,c1,s2,b2,a2,n2,c2,e,h1.far hb,h2.far hb⟩
def my (q:Rat) (w:World) (e:Ending) (w':World):Prop:=∃v,e=.returned v∧RV w' v q∧Below w.heap.size w w'
def dO (w:World) (R:Nat) (x0 x1 x2 x3 x4 x5:Value):World:=(((((w.setCell ⟨R,0,none⟩ x0).setCell ⟨R,1,none⟩ x1).setCell ⟨R,2,none⟩ x2).setCell ⟨R,3,none⟩ x3).setCell ⟨R,4,none⟩ x4).setCell ⟨R,5,none⟩ x5
theorem dy {w:World} {R:Nat} {y0 y1 y2 y3 y4 y5:Value} {t:TypeId} (h:w.heap[R]? =some (.cells #[y0,y1,y2,y3,y4,y5] t (0,0))) (x0 x1 x2 x3 x4 x5:Value):(dO w R x0 x1 x2 x3 x4 x5).heap[R]? =some (.cells #[x0,x1,x2,x3,x4,x5] t (0,0)):=by
 have:=heap_set (heap_set (heap_set (heap_set (heap_set (heap_set h 0 x0) 1 x1) 2 x2) 3 x3) 4 x4) 5 x5
 simpa [dO] using this
theorem bc {w:World} {R g:Nat} (h:g≠R) (x0 x1 x2 x3 x4 x5:Value):(dO w R x0 x1 x2 x3 x4 x5).heap[g]? =w.heap[g]? :=by
 unfold dO;rw[aG _ _ _ _ h,aG _ _ _ _ h,aG _ _ _ _ h,aG _ _ _ _ h,aG _ _ _ _ h,aG _ _ _ _ h]
theorem cX {B:Nat} {w0 w:World} {R:Nat} (h:Below B w0 w) (hR:B≤R) (x0 x1 x2 x3 x4 x5:Value):Below B w0 (dO w R x0 x1 x2 x3 x4 x5):=
 (((((h.setCell (show B≤(⟨R,0,none⟩:Addr).block from hR) x0).setCell (show B≤(⟨R,1,none⟩:Addr).block from hR) x1).setCell (show B≤(⟨R,2,none⟩:Addr).block from hR) x2).setCell (show B≤(⟨R,3,none⟩:Addr).block from hR) x3).setCell (show B≤(⟨R,4,none⟩:Addr).block from hR) x4).setCell (show B≤(⟨R,5,none⟩:Addr).block from hR) x5
theorem WS.heap_same {w w':World} {ao:Option Addr} {g off cap:Nat} {l:List Nat} (h:WS w ao g off cap l) {R:Nat} {cs:Array Value} {t:TypeId} {fr:Nat×Nat} (hR:w.heap[R]? =some (.cells cs t fr)) (ht:t≠207) (ho:∀k,k≠R→w'.heap[k]? =w.heap[k]?):WS w' ao g off cap l:=
 h.same fun hc=>ho g (fun e=>by
  obtain ⟨cs',fr',hb⟩:=h.blk hc;rw[e,hR] at hb
  cases hb;exact ht rfl)
theorem IV.heap_same {w w':World} {v:Value} {z:Int} (h:IV w v z) {R:Nat} {cs:Array Value} {t:TypeId} {fr:Nat×Nat} (hR:w.heap[R]? =some (.cells cs t fr)) (ht:t≠207) (ho:∀k,k≠R→w'.heap[k]? =w.heap[k]?):IV w' v z:=by
 rcases h with h | ⟨b,g,off,cap,l,h1,h2,h3,h4⟩
 · exact .inl h
 · exact .inr ⟨b,g,off,cap,l,h1,h2.heap_same hR ht ho,h3,h4⟩
theorem j2 {fn:Func} {t:Tmp} {a:Act} {w w2:World} {R:Nat} {q:Rat} {s1:Int} {b1:Bool} {a1:Option Addr} {n1 c1:Nat} {s2:Int} {b2:Bool} {a2:Option Addr} {n2 c2:Nat} {x0 x1 x2 x3 x4 x5:Value} (hres:fn.results=#[.cell t 75]) (hd:a.defers=[]) (ht:a.tmps.getD t undef=.pointer (some ⟨R,0,none⟩))
    (hR:w2.heap[R]? =some (.cells #[x0,x1,x2,x3,x4,x5] 75 (0,0))) (hn:IV w2 (.agg #[.int .i64 s1,.bool b1,.slice a1 n1 c1]) q.num) (hdn:IV w2 (.agg #[.int .i64 s2,.bool b2,.slice a2 n2 c2]) (fE q)) (hb:Below w.heap.size w w2) (hRB:w.heap.size≤R):
    bodyPost prog fn (my q w) .ret a ((((((w2.setCell ⟨R,0,none⟩ (.int .i64 s1)).setCell ⟨R,1,none⟩ (.bool b1)).setCell ⟨R,2,none⟩ (.slice a1 n1 c1)).setCell ⟨R,3,none⟩ (.int .i64 s2)).setCell ⟨R,4,none⟩ (.bool b2)).setCell ⟨R,5,none⟩ (.slice a2 n2 c2)):=by
 show bodyPost prog fn (my q w) .ret a (dO w2 R (.int .i64 s1) (.bool b1) (.slice a1 n1 c1) (.int .i64 s2) (.bool b2) (.slice a2 n2 c2));have h3:=dy hR (.int .i64 s1) (.bool b1) (.slice a1 n1 c1) (.int .i64 s2) (.bool b2) (.slice a2 n2 c2);have hbl:=cX hb hRB (.int .i64 s1) (.bool b1) (.slice a1 n1 c1) (.int .i64 s2) (.bool b2) (.slice a2 n2 c2);have ho:∀k,k≠R→(dO w2 R (.int .i64 s1) (.bool b1) (.slice a1 n1 c1) (.int .i64 s2) (.bool b2) (.slice a2 n2 c2)).heap[k]? =w2.heap[k]? :=fun k hk=>bc hk _ _ _ _ _ _
 have hn2:=hn.heap_same hR (by decide) ho;have hd2:=hdn.heap_same hR (by decide) ho;generalize dO w2 R (.int .i64 s1) (.bool b1) (.slice a1 n1 c1) (.int .i64 s2) (.bool b2) (.slice a2 n2 c2)=w3 at *;have k0:=aa h3 0;have k1:=aa h3 1;have k2:=aa h3 2;have k3:=aa h3 3;have k4:=aa h3 4;have k5:=aa h3 5
 simp at k0 k1 k2 k3 k4 k5
 refine bodyPost_ret (v:=.agg #[.int .i64 s1,.bool b1,.slice a1 n1 c1,.int .i64 s2,.bool b2,.slice a2 n2 c2]) ?_ hd ⟨_,rfl,⟨_,_,_,_,_,_,_,_,_,_,rfl,hn2,hd2⟩,hbl⟩;have ht':a.tmps[t]?.getD undef=.pointer (some ⟨R,0,none⟩):=by simpa using ht
 simp[results,hres,go_sem,ht',k0,k1,k2,k3,k4,k5]
theorem j3 (n:Nat):Lib.decDigits n=aU n:=by
 induction n using Nat.strongRecOn with
 | _ n ih=>
   by_cases h:n<10
   · rw[cG h,Lib.decDigits,dif_pos h];rfl
   · rw[fB h,Lib.decDigits,dif_neg h,ih (n / 10) (by omega)];rfl
theorem uJ (z:Int):Lib.itoa z=bS z:=by
 unfold Lib.itoa bS;rw[j3,j3]
 split
 · rfl
 · rename_i h;rw[show z.toNat=z.natAbs by omega]
theorem vP (M:Nat) (l:List UInt8):∀acc,l.all isD=true→(acc+1)*10 ^ l.length≤1000000000000000000→(acc+1)*10 ^ l.length≤M+1→Lib.parseUintM M acc l=.ok (acc*10 ^ l.length+dv l):=by
 induction l with
 | nil=>intro acc _ _ _;simp[Lib.parseUintM,fT]
 | cons c r ih=>
   intro acc h h1 h2;rw[List.all_cons,Bool.and_eq_true] at h;have hc:=cA.1 h.1;rw[aw,Nat.pow_succ] at h1 h2;have hp:0<10 ^ r.length:=Nat.pow_pos (by omega);have e1:(acc+1)*(10 ^ r.length*10)=(acc*10+10)*10 ^ r.length:=by grind
   rw[e1] at h1 h2;have e2:(acc*10+(c.toNat-48)+1)*10 ^ r.length≤(acc*10+10)*10 ^ r.length:=Nat.mul_le_mul_right _ (by omega);have e3:(acc*10+10)*1≤(acc*10+10)*10 ^ r.length:=Nat.mul_le_mul_left _ hp;rw[Lib.parseUintM,aF hc,aB (by omega),aB (by omega),ih _ h.2 (by omega) (by omega),fM,aw,Nat.pow_succ]
   congr 1
   grind
theorem ot (B:Nat) (l:List UInt8) (h:l.all isD=true) (h0:l≠[]) (h1:l.length≤18) (h2:10 ^ l.length≤2 ^ B):Lib.parseUintB B l=.ok (dv l):=by
 unfold Lib.parseUintB;rw[aB h0,vP _ _ _ h]
 · simp
 · have:10 ^ l.length≤10 ^ 18:=Nat.pow_le_pow_right (by omega) h1
   simpa using this
 · have:0<2 ^ B:=Nat.pow_pos (by omega)
   simp;omega
theorem ou (l:List UInt8) (h:l.all isD=true) (h0:l≠[]) (h1:l.length≤18):Lib.parseIntB 64 l=.ok (dv l:Int)∧dv l<1000000000000000000:=by
 have hp:10 ^ l.length≤10 ^ 18:=Nat.pow_le_pow_right (by omega) h1;have hu:=ot 64 l h h0 h1 (by omega);have hl:=ir l h;refine ⟨?_,by omega⟩
 match l,h0 with
 | c::r,_=>
   rw[List.all_cons,Bool.and_eq_true] at h;have hc:=cA.1 h.1;unfold Lib.parseIntB;simp only;rw[aB (by omega),hu];simp only;rw[aB (by omega),aB (by omega),aB (by omega)]
theorem fQ {w:World} {b:Nat} {v:Value} {l:List Nat} (h:w.ownsRow b 207 1 v l.length (bT l)) (hn:0<l.length):∃g cap,v=.slice (some ⟨g,0,none⟩) l.length cap∧b≤g∧l.length≤cap:=by
 obtain ⟨_,h | ⟨g,cap,cur,hv,hg,_,hc,_⟩⟩:=h
 · omega
 · exact ⟨g,cap,hv,hg,hc⟩
theorem jg {w:World} {b:Nat} {v:Value} {l:List Nat} (h:w.ownsRow b 207 1 v l.length (bT l)):∃a c,v=.slice a l.length c:=by
 obtain ⟨_,h | ⟨g,cap,cur,hv,_⟩⟩:=h
 · rw[h.2,h.1];exact ⟨none,0,rfl⟩
 · exact ⟨_,_,hv⟩
theorem kO {w:World} {b g cap:Nat} {l:List Nat} (h:w.ownsRow b 207 1 (.slice (some ⟨g,0,none⟩) l.length cap) l.length (bT l)) (i x:Nat):
    (w.setCell ⟨g,i,none⟩ (.int .u32 (x:Int))).ownsRow b 207 1 (.slice (some ⟨g,0,none⟩) l.length cap) (l.set i x).length (bT (l.set i x)):=by
 obtain ⟨hx,h | ⟨g',cap',cur,hv,hg,hh,hc,hm,hs,ht⟩⟩:=h
 · cases h.1
 · injection hv with e1 e2 e3;injection e1 with e1;injection e1 with e1;subst e1 e3;rw[aQ];refine ⟨by rw[iz,aQ];omega,.inr ⟨g,cap,cur.setIfInBounds i (.int .u32 (x:Int)),rfl,hg,heap_set hh i _,hc,hm,by simpa using hs,?_⟩⟩;rw[Array.toList_setIfInBounds,List.take_set,ht]
   simp[bT,List.map_set]
theorem iB {w:World} {b g cap:Nat} {l:List Nat} (h:w.ownsRow b 207 1 (.slice (some ⟨g,0,none⟩) l.length cap) l.length (bT l)) (i:Nat) (hi:i<l.length):w.cell? ⟨g,i,none⟩=some (.int .u32 ((l.getD i 0:Nat):Int))∧w.frozen? ⟨g,i,none⟩=false:=by
 refine ⟨by rw[h.cellAt i (by omega),lN l i hi],?_⟩;obtain ⟨hx,h | ⟨g',cap',cur,hv,hg,hh,_⟩⟩:=h
 · cases h.1
 · injection hv with e1;injection e1 with e1;injection e1 with e1;subst e1;exact aK hh i
theorem mz {w:World} {b:Nat} {v:Value} {l:List Nat} (h:w.ownsRow b 207 1 v l.length (bT l)) (hw:Ws l):WV w v l:=by
 have h':=h;obtain ⟨hx,h | ⟨g,cap,cur,hv,hg,hh,hc,hm,_⟩⟩:=h
 · have hl:l=[]:=List.length_eq_zero_iff.1 h.2;subst hl;rw[h.1];exact WV.nil w
 · subst hv;exact ⟨_,g,0,cap,rfl,hc,by unfold maxLen at hm;omega,fun _=>rfl,(fun h=>by cases h),fun _=>⟨_,_,hh⟩,fun i hi=>by rw[Nat.zero_add];exact (iB h' i hi).1,hw⟩
end Go.Proofs.YtpkfnnkbfphfbaaGreatDoor

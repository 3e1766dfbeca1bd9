import Derived.Test.YtpkfnnkbfphfbaaGreatDoorHNS
import Derived.Test.YtpkfnnkbfphfbaaGreatDoorHRG
set_option maxRecDepth 100000
set_option maxHeartbeats 40000000
open Go.Lib (hid)
namespace Go.Proofs.YtpkfnnkbfphfbaaGreatDoor
open Go.RowKit Nmx Go.Proofs.Tryz
theorem zr (z:Int):z.natAbs<10 ^ (bS z).length:=aC (fU z.natAbs) (kI (o6 z))
theorem re {l:List UInt8} {z:Int} (h:br l=some z) (hl:l.length≤8000):Fit z:=by
 have h1:=zr z;rw[eL h] at h1;obtain ⟨k,hk⟩:∃k,k=889:=⟨_,rfl⟩
 exact kV (k:=k) (kJ (d:=l.length) (aL h1) (by omega)) (by omega)
theorem dZ {l:List UInt8} (hl:l.length≤8000):mD l:=fun n d h1 h2 h3=>by
 have l1:(dB l).length≤l.length:=by unfold dB;exact (List.takeWhile_sublist _).length_le
 have l2:(bC l).length≤l.length:=by
  unfold bC;rw[List.length_drop];exact aP (Nat.sub_le _ _) (List.dropWhile_sublist _).length_le
 exact vV (re h1 (by omega)) (re h2 (by omega))
theorem rf {d k:Nat} {q:Rat} (h:DS d q) (hk:d<9*k):RS k q:=⟨kJ (aL h.1) hk,kJ h.2 hk⟩
theorem pD {d:Nat} {p:Rat} (hp:DS d p) (hd:d≤3000) (W:World) (h:Env W):Calls prog 56 #[.string (TX p)] W fun e w'=>∃v,e=.returned (.tuple #[v,.bool true])∧RV w' v p∧Below W.heap.size W w':=by
 have hs:=DS.sz hp;have hc:=fh (TX p) W (by omega) h (dZ (by rw[size_data];omega));unfold cm at hc;rw[dP] at hc;exact hc
theorem Bn {d e:Nat} {p q:Rat} (hp:DS d p) (hq:DS e q) (hd:d≤3000) (he:e≤3000) (W:World) (h:Env W):Calls prog 88 #[.string (TX p),.string (TX q)] W fun e w'=>∃v1 v2,e=.returned (.tuple #[v1,v2,.bool true])∧RV w' v1 p∧RV w' v2 q∧Below W.heap.size W w':=by
 have hs:=DS.sz hp;have ht:=DS.sz hq;have hc:=xQ (TX p) (TX q) W (by omega) (by omega) h (dZ (by rw[size_data];omega)) (dZ (by rw[size_data];omega));unfold fF at hc;rw[dP,dP] at hc;exact hc
theorem oD {d:Nat} {p:Rat} (hp:DS d p) (hd:d≤3000) (W:World) (h:Env W):Calls prog 32 #[.string (TX p)] W fun e w'=>e=.returned (.bool (decide (p.den=1)))∧Below W.heap.size W w':=by
 have hs:=DS.sz hp;have hc:=j6 (TX p) W (by omega) h (dZ (by rw[size_data];omega));rw[dP] at hc;exact hc
theorem rg {d:Nat} {p:Rat} (hp:DS d p) (hd:d≤3000) (W:World) (h:Env W):Calls prog 155 #[.string (TX p)] W fun e w'=>e=.returned (.int .i64 (dd p.num))∧Below W.heap.size W w':=by
 have hs:=DS.sz hp;have hc:=lx (TX p) W (by omega) h (dZ (by rw[size_data];omega));rw[dP] at hc;exact hc
def mM (a b:Int):Int:=(a % 18446744073709551616) % b
theorem zt (a b:Int) (w:World) (hb:1≤b) (hb':b≤1000000000000000000):
    Calls prog 10 #[.int .i64 a,.int .i64 b] w fun e w'=>e=.returned (.int .i64 (mM a b))∧w=w':=by
 have hwr:IntKind.u64.wrap a=a % 18446744073709551616:=by rw[IntKind.wrap_u64]
 have HW:=hid hwr;clear hwr
 go_enter func10,ntmps10
 go_wp2
 go_ret
 refine ⟨ret_int ?_,rfl⟩;rw[HW.out,Int.tmod_eq_emod_of_nonneg (by omega)];unfold mM;have h0:=Int.emod_nonneg (a % 18446744073709551616) (show b≠0 by omega);have h3:=Int.emod_lt_of_pos (a % 18446744073709551616) (show 0<b by omega);exact IntWalk.wrap64_in _ ⟨by omega,by omega⟩
theorem cY (w:World) (r:Option Nat):w.grownBy w r:=⟨rfl,rfl,rfl,aj _,fun _ _ _=>rfl⟩
theorem grown_trans {w w1 w2:World} {r:Option Nat} (h:w.grownBy w1 r) (h2:w1.grownBy w2 r):w.grownBy w2 r:=
 ⟨h2.os.trans h.os,h2.tape.trans h.tape,h2.output.trans h.output,aP h.size h2.size,fun k hk hr=>(h2.block k (aC hk h.size) hr).trans (h.block k hk hr)⟩
theorem d4 {w w1:World} {r:Option Nat} (h:w.grownBy w1 r) (n:Nat):w.grownBy (w1.drewN n) r:=
 let b:=aW (am 0 w1) n
 ⟨b.os.trans h.os,b.tape.trans h.tape,b.output.trans h.output,aP h.size b.size,fun k hk hr=>h.block k hk hr⟩
theorem dQ {w w1:World} {r:Nat} (h:w.grownBy w1 (some r)) (j:Nat) (v:Value):w.grownBy (w1.setCell ⟨r,j,none⟩ v) (some r):=
 ⟨h.os,h.tape,h.output,by simpa [World.setCell] using h.size,fun k hk hr=>by rw[aG _ _ _ _ (by show k≠r;exact fun e=>hr (by rw[e]))];exact h.block k hk hr⟩
structure Ch (C:Nat) (ao:Option Addr) (n cap:Nat) (w:World):Prop where
 blk:∃i:Nat,i≤n∧w.heap[C]? =some (.cells #[.slice ao n cap,.int .i64 i] 60 (0,0))
 few:n≤400
 rd:n≠0→∃b off,ao=some ⟨b,off,none⟩∧b<C∧∀t,t<n→∃x:Int,w.cell? ⟨b,off+t,none⟩=some (.int .i64 x)
theorem Ch.lt {C:Nat} {ao:Option Addr} {n cap:Nat} {w:World} (h:Ch C ao n cap w):C<w.heap.size:=by
 obtain ⟨i,_,h⟩:=h.blk;exact (Array.getElem?_eq_some_iff.1 h).1
theorem Ch.grown {C:Nat} {ao:Option Addr} {n cap:Nat} {w w':World} {r:Option Nat} (h:Ch C ao n cap w) (hg:w.grownBy w' r) (hr:∀k,r=some k→C<k):Ch C ao n cap w':=by
 have hlt:=h.lt;refine ⟨?_,h.few,fun hn=>?_⟩
 · obtain ⟨i,hi,hb⟩:=h.blk;exact ⟨i,hi,(hg.block C hlt (fun e=>by have:=hr C e.symm;omega)).trans hb⟩
 · obtain ⟨b,off,e,hb,hx⟩:=h.rd hn;refine ⟨b,off,e,hb,fun t ht=>?_⟩;obtain ⟨x,hx⟩:=hx t ht;exact ⟨x,hg.cell hx (fun e=>by have:=hr b e.symm;omega)⟩
theorem Ch.drewN {C:Nat} {ao:Option Addr} {n cap:Nat} {w:World} (h:Ch C ao n cap w) (k:Nat):Ch C ao n cap (w.drewN k):=h.grown (d4 (cY _ none) k) (by simp)
theorem Ch.step {C:Nat} {ao:Option Addr} {n cap:Nat} {w:World} (h:Ch C ao n cap w) (i:Nat) (hi:i≤n) (q:Int) (hq:q=i):Ch C ao n cap (w.setCell ⟨C,1,none⟩ (.int .i64 q)):=by
 subst hq;refine ⟨?_,h.few,fun hn=>?_⟩
 · obtain ⟨j,_,hb⟩:=h.blk;refine ⟨i,hi,?_⟩
   simp[World.setCell,Array.getElem?_modify,hb]
 · obtain ⟨b,off,e,hb,hx⟩:=h.rd hn;refine ⟨b,off,e,hb,fun t ht=>?_⟩;obtain ⟨x,hx⟩:=hx t ht;refine ⟨x,?_⟩;rw[World.cell?_setCell_other _ _ _ _ (by simp;try omega)];exact hx
theorem ya (a b:Int) (w:World) (hb:1≤b) (hb2:b≤1000000000000000000):Calls prog 10 #[.int .i64 a,.int .i64 b] w fun e w1=>e=.returned (.int .i64 (mM a b))∧w1=w:=(zt a b w hb hb2).mono fun _ _ h=>⟨h.1,h.2.symm⟩
def yb (C:Nat) (ao:Option Addr) (n cap:Nat) (w:World) (k:Nat) (e:Ending) (w':World):Prop:=
 ∃r:Nat,r<k∧e=.returned (.int .i64 r)∧Ch C ao n cap w'∧w.grownBy w' (some C)∧w'.heap.size=w.heap.size
theorem ek (C:Nat) (ao:Option Addr) (n cap:Nat) (w:World) (k:Nat) (hk:1≤k) (hk2:k≤1000000000000000000) (h:Ch C ao n cap w):
    Calls prog 38 #[.pointer (some ⟨C,0,none⟩),.int .i64 k] w (yb C ao n cap w k):=by
 obtain ⟨i,hi,hb⟩:=h.blk;have c0:w.cell? ⟨C,0,none⟩=some (.slice ao n cap):=by simp[World.cell?,hb]
 have c1:w.cell? ⟨C,1,none⟩=some (.int .i64 i):=by simp[World.cell?,hb]
 have hf:w.frozen? ⟨C,1,none⟩=false:=by simp[World.frozen?,hb]
 have HC:=hid h;have hfew:=h.few
 by_cases hlt:i<n
 · obtain ⟨b,off,hao,hbC,hx⟩:=h.rd (by omega);obtain ⟨x,hx⟩:=hx i hlt;subst hao;have HX:=hid hx;clear h hb hx
   go_enter func38,ntmps38
   go_wp2_with fail
   go_quiet (fail)
   go_wp2_with fail
   have hS:=hid ((HC.out.drewN nq).step (i+1) hlt ((i:Int)+1) rfl);have hG:=hid (dQ (d4 (cY w (some C)) nq) 1 (.int .i64 ((i:Int)+1)));have hz:Hid (((w.drewN nq).setCell ⟨C,1,none⟩ (.int .i64 ((i:Int)+1))).heap.size=w.heap.size):=hid (by simp[World.setCell])
   have d0:((w.drewN nq).setCell ⟨C,1,none⟩ (.int .i64 ((i:Int)+1))).cell? ⟨C,0,none⟩=some (.slice (some ⟨b,off,none⟩) n cap):=by
    rw[World.cell?_setCell_other _ _ _ _ (by simp)];exact c0
   have d1:((w.drewN nq).setCell ⟨C,1,none⟩ (.int .i64 ((i:Int)+1))).cell? ⟨C,1,none⟩=some (.int .i64 ((i:Int)+1)):=World.cell?_setCell_same _ _ _ c1
   have d2:((w.drewN nq).setCell ⟨C,1,none⟩ (.int .i64 ((i:Int)+1))).cell? ⟨b,off+i,none⟩=some (.int .i64 x):=by
    rw[World.cell?_setCell_other _ _ _ _ (by simp;try omega)];exact HX.out
   clear c0 c1 hf hx HC HX;generalize (w.drewN nq).setCell ⟨C,1,none⟩ (.int .i64 ((i:Int)+1))=w2 at *;have hwr:IntKind.i64.wrap (i:Int)=i:=by rw[IntKind.wrap_i64];omega
   have hi0:(0:Int)≤(i:Int):=by omega
   have hi1:(i:Int)<(n:Int):=by omega
   go_quiet ((go_at_call 10;exact Calls.quiet_of_same (ya _ _ _ (by omega) (by omega))))
   go_wp2_with fail
   go_ret
   have hm0:0≤mM x k:=by unfold mM;exact Int.emod_nonneg _ (by omega)
   have hm1:mM x k<k:=by unfold mM;exact Int.emod_lt_of_pos _ (by omega)
   exact ⟨(mM x k).toNat,by omega,congrArg (fun z=>Ending.returned (Value.int .i64 z)) (Int.toNat_of_nonneg hm0).symm,hS.out.drewN _,d4 hG.out _,hz.out⟩
 · have:i=n:=by omega
   subst this;clear h hb
   go_enter func38,ntmps38
   go_wp2_with fail
   go_quiet (fail)
   go_wp2_with fail
   go_ret
   exact ⟨0,by omega,rfl,HC.out.drewN _,d4 (cY _ _) _,rfl⟩
structure ArgI (w:World) (ao:Option Addr) (len cap:Nat):Prop where
 le:len≤cap
 most:cap≤maxLen
 rd:0<cap→∃b off,ao=some ⟨b,off,.none⟩∧b<w.heap.size∧∀t,t<len→∃x:Int,w.cell? ⟨b,off+t,.none⟩=some (.int .i64 x)
def uT (w:World) (ao:Option Addr) (len cap:Nat) (e:Ending) (w':World):Prop:=
 e=.returned (.pointer (some ⟨w.heap.size,0,none⟩))∧w'=w.alloc (.cells #[.slice ao (min len 400) cap,.int .i64 0] 60)
theorem zu (ao:Option Addr) (len cap:Nat) (w:World) (h:ArgI w ao len cap):
    Calls prog 15 #[.slice ao len cap] w (uT w ao len cap):=by
 have hle:=h.le;have hm:=h.most;unfold maxLen at hm
 by_cases hc:cap=0
 · subst hc;have hl:len=0:=by omega
   subst hl;clear h;cases ao with
   | none=>
     go_enter func15,ntmps15
     go_wp2
     go_ret
     exact ⟨rfl,rfl⟩
   | some a=>
     obtain ⟨b,off,spot⟩:=a;cases spot with
     | none=>
       go_enter func15,ntmps15
       go_wp2
       go_ret
       exact ⟨rfl,rfl⟩
     | some sp=>
       go_enter func15,ntmps15
       go_wp2
       go_ret
       exact ⟨rfl,rfl⟩
 · obtain ⟨b,off,rfl,hb,_⟩:=h.rd (by omega);clear h
   by_cases hlt:len≤400
   · have hmin:min (len:Int) 400=len:=by omega
     have hmin2:min len 400=len:=by omega
     have hi1:(len:Int)≤(cap:Int):=by omega
     go_enter func15,ntmps15
     go_wp2
     go_ret
     exact ⟨rfl,by rw[hmin2]⟩
   · have hmin:min (len:Int) 400=400:=by omega
     have hmin2:min len 400=400:=by omega
     have hi1:(400:Int)≤(cap:Int):=by omega
     go_enter func15,ntmps15
     go_wp2
     go_ret
     exact ⟨rfl,by rw[hmin2]⟩
theorem cx {w w':World} (h:Below w.heap.size w w'):w.grownBy w' none:=⟨h.os,h.tape,h.output,h.size,fun k hk _=>h.block k hk⟩
theorem dt {w w':World} {r:Option Nat} (h:w.grownBy w' none):w.grownBy w' r:=⟨h.os,h.tape,h.output,h.size,fun k hk _=>h.block k hk (by simp)⟩
theorem cK {w w1 w2:World} {r:Option Nat} (h:w.grownBy w1 r) (h2:Below w1.heap.size w1 w2):w.grownBy w2 r:=grown_trans h (dt (cx h2))
theorem Ch.call {C:Nat} {ao:Option Addr} {n cap:Nat} {w w':World} (h:Ch C ao n cap w) (hb:Below w.heap.size w w'):Ch C ao n cap w':=h.grown (cx hb) (by simp)
def zv (C:Nat) (ao:Option Addr) (n cap:Nat) (w:World) (e:Ending) (w':World):Prop:=∃z:Int,z.natAbs<10 ^ 24∧e=.returned (.string (TX (z:Rat)))∧Ch C ao n cap w'∧w.grownBy w' (some C)
def zw (C:Nat) (ao:Option Addr) (n cap:Nat) (w:World) (e:Ending) (w':World):Prop:=∃q:Rat,DS 26 q∧e=.returned (.string (TX q))∧Ch C ao n cap w'∧w.grownBy w' (some C)
theorem eN (z:Int) (h1: -9223372036854775808≤z) (h2:z≤9223372036854775807) (W:World):Calls prog 40 #[.int .i64 z] W (ig (z:Rat) W):=by
 have h:=mG z W h1 h2;unfold ig TX;rw[i7];exact h
theorem rh:(10:Nat) ^ 24=1000000000000000000000000:=by decide
theorem eO (C:Nat) (ao:Option Addr) (n cap:Nat) (w:World) (h:Ch C ao n cap w):Calls prog 17 #[.pointer (some ⟨C,0,none⟩)] w (zv C ao n cap w):=by
 have HC0:=hid h;clear h
 go_enter func17,ntmps17
 go_wp2_with fail
 refine (ek _ _ _ _ _ 8 (by omega) (by omega) HC0.out).mono ?_;rintro e w1 ⟨r1,hr1,rfl,hch,hg,-⟩;have HC1:=hid hch;have HG1:=hid (hg);clear hch hg;have q0:(0:Int)≤(r1:Int):=by omega
 have q1:(r1:Int)<8:=by omega
 by_cases h6:r1=6
 · subst h6
   go_wp2_with fail
   refine (ek _ _ _ _ _ 2001 (by omega) (by omega) HC1.out).mono ?_;rintro e w2 ⟨r2,hr2,rfl,hch,hg,-⟩;have HC2:=hid hch;have HG2:=hid (grown_trans HG1.out hg);clear hch hg;have q2:(0:Int)≤(r2:Int):=by omega
   have q3:(r2:Int)<2001:=by omega
   obtain ⟨z,hz⟩:∃z:Int,(r2:Int)-1000=z:=⟨_,rfl⟩
   have HZ:Hid (z.natAbs<10 ^ 24):=hid (by rw[rh];omega)
   go_wp2_with fail
   refine (eN z (by omega) (by omega) _).mono ?_;rintro e w3 ⟨rfl,hb⟩;have HC3:=hid (HC2.out.call hb);have HG3:=hid (cK HG2.out hb);clear hb;clear hz
   go_wp2
   go_ret
   exact ⟨z,HZ.out,rfl,HC3.out,HG3.out⟩
 · by_cases h7:r1=7
   · subst h7
     go_wp2_with fail
     refine (ek _ _ _ _ _ 1099511627776 (by omega) (by omega) HC1.out).mono ?_;rintro e w2 ⟨r2,hr2,rfl,hch,hg,-⟩;have HC2:=hid hch;have HG2:=hid (grown_trans HG1.out hg);clear hch hg;have q2:(0:Int)≤(r2:Int):=by omega
     have q3:(r2:Int)<1099511627776:=by omega
     obtain ⟨y,hy⟩:∃y:Int,(r2:Int)-549755813888=y:=⟨_,rfl⟩
     have hy1: -549755813888≤y:=by omega
     have hy2:y≤549755813888:=by omega
     go_wp2_with fail
     refine (eN y (by omega) (by omega) _).mono ?_;rintro e w3 ⟨rfl,hb⟩;have HC3:=hid (HC2.out.call hb);have HG3:=hid (cK HG2.out hb);clear hb;clear hy q2 q3
     go_wp2_with fail
     refine (ek _ _ _ _ _ 1099511627776 (by omega) (by omega) HC3.out).mono ?_;rintro e w4 ⟨r4,hr4,rfl,hch,hg,-⟩;have HC4:=hid hch;have HG4:=hid (grown_trans HG3.out hg);clear hch hg;have q4:(0:Int)≤(r4:Int):=by omega
     have q5:(r4:Int)<1099511627776:=by omega
     have hfr:=fun W=>eN (r4:Int) (by omega) (by omega) W
     unfold ig at hfr;obtain ⟨tr,htr⟩:∃tr,TX (((r4:Int)):Rat)=tr:=⟨_,rfl⟩
     rw[htr] at hfr;have HTR:=hid htr;clear htr
     go_wp2_with fail
     refine (hfr _).mono ?_;rintro e w5 ⟨rfl,hb⟩;have HC5:=hid (HC4.out.call hb);have HG5:=hid (cK HG4.out hb);clear hb;have d1:DS 24 ((y:Int):Rat):=DS.int (by rw[rh];omega);have d2:DS 24 (((r4:Int)):Rat):=DS.int (by rw[rh];omega);have hm:=fun W=>zK d1 d2 (by omega) (by omega) W
     rw[←Rat.intCast_mul] at hm
     have HZ:Hid ((y*(r4:Int)).natAbs<10 ^ 24):=hid (by
      rw[Int.natAbs_mul,rh];have h1:y.natAbs≤549755813888:=by omega
      have h2:((r4:Int)).natAbs≤1099511627776:=by omega
      have:=Nat.mul_le_mul h1 h2
      omega)
     obtain ⟨z,hz⟩:∃z:Int,y*(r4:Int)=z:=⟨_,rfl⟩
     rw[hz] at hm HZ;unfold ig at hm;rw[HTR.out] at hm;clear d1 d2 hz hy1 hy2 HTR hfr;generalize TX (y:Rat)=ty at *
     go_wp2_with fail
     refine (hm _).mono ?_;rintro e w6 ⟨rfl,hb⟩;have HC6:=hid (HC5.out.call hb);have HG6:=hid (cK HG5.out hb);clear hb
     go_wp2
     go_ret
     exact ⟨z,HZ.out,rfl,HC6.out,HG6.out⟩
   · have h6i:((r1:Int)==6)=false:=by simp;omega
     have h7i:((r1:Int)==7)=false:=by simp;omega
     clear h6 h7
     go_wp2_with fail
     refine (ek _ _ _ _ _ 9 (by omega) (by omega) HC1.out).mono ?_;rintro e w2 ⟨r2,hr2,rfl,hch,hg,-⟩;have HC2:=hid hch;have HG2:=hid (grown_trans HG1.out hg);clear hch hg;have q2:(0:Int)≤(r2:Int):=by omega
     have q3:(r2:Int)<9:=by omega
     obtain ⟨z,hz⟩:∃z:Int,(r2:Int)-4=z:=⟨_,rfl⟩
     have HZ:Hid (z.natAbs<10 ^ 24):=hid (by rw[rh];omega)
     go_wp2_with fail
     refine (eN z (by omega) (by omega) _).mono ?_;rintro e w3 ⟨rfl,hb⟩;have HC3:=hid (HC2.out.call hb);have HG3:=hid (cK HG2.out hb);clear hb;clear hz
     go_wp2
     go_ret
     exact ⟨z,HZ.out,rfl,HC3.out,HG3.out⟩
theorem tG (C:Nat) (ao:Option Addr) (n cap:Nat) (w:World) (h:Ch C ao n cap w):Calls prog 62 #[.pointer (some ⟨C,0,none⟩)] w (zw C ao n cap w):=by
 have hi:=eO C ao n cap w h;clear h
 go_enter func62,ntmps62
 go_wp2_with fail
 refine hi.mono ?_;rintro e w1 ⟨z,hz,rfl,hch,hg⟩;have HC1:=hid hch;have HG1:=hid hg;have HZ:=hid hz;clear hch hg hi hz
 go_wp2_with fail
 refine (ek _ _ _ _ _ 4 (by omega) (by omega) HC1.out).mono ?_;rintro e w2 ⟨r2,hr2,rfl,hch,hg,-⟩;have HC2:=hid hch;have HG2:=hid (grown_trans HG1.out hg);clear hch hg;have q2:(0:Int)≤(r2:Int):=by omega
 have q3:(r2:Int)<4:=by omega
 obtain ⟨y,hy⟩:∃y:Int,1+(r2:Int)=y:=⟨_,rfl⟩
 have hy1:1≤y:=by omega
 have hy2:y≤4:=by omega
 go_wp2_with fail
 refine (eN y (by omega) (by omega) _).mono ?_;rintro e w3 ⟨rfl,hb⟩;have HC3:=hid (HC2.out.call hb);have HG3:=hid (cK HG2.out hb);clear hb;clear hy q2 q3;have d1:DS 24 ((z:Int):Rat):=DS.int HZ.out;have d2:DS 2 ((y:Int):Rat):=DS.int (by show _<100;omega);have hn0:((y:Int):Rat).num≠0:=by rw[Rat.num_intCast];omega
 have hm:=fun W=>zL d1 d2 (by omega) (by omega) hn0 W
 have HD:Hid (DS 26 (((z:Int):Rat) / ((y:Int):Rat))):=hid (d1.div d2 hn0);generalize ((z:Int):Rat) / ((y:Int):Rat)=q at *;clear d1 d2 hn0 hy1 hy2;generalize TX (z:Rat)=tz at *;generalize TX (y:Rat)=ty at *
 go_wp2_with fail
 refine (hm _).mono ?_;rintro e w4 ⟨rfl,hb⟩;have HC4:=hid (HC3.out.call hb);have HG4:=hid (cK HG3.out hb);clear hb
 go_wp2
 go_ret
 exact ⟨q,HD.out,rfl,HC4.out,HG4.out⟩
theorem vW (x:Value) (p:Rat) (w:World) (hx:RV w x p)  :Calls prog 203 #[x] w (my ((p.num:Int):Rat) w):=by
 have hc:=fun W (hW:Below w.heap.size w W)=>mC x p W (hx.far hW)
 obtain ⟨s1,b1,a1,n1,c1,s2,b2,a2,n2,c2,rfl,h1,h2⟩:=bG hx;have HT:=hid (OneR.new w (.int .i64 s1) (.bool b1) (.slice a1 n1 c1) (.int .i64 s2) (.bool b2) (.slice a2 n2 c2) _ rfl);clear hx h1 h2
 go_enter func203,ntmps203
 go_wp2_with fail
 refine (hc _ HT.out.bel).mono ?_;rintro e w1 ⟨v1,rfl,hv1,hb1⟩;have HT1:=hid (HT.out.far hb1);have hfi:=fH v1 _ w1 hv1;clear hv1 hb1 hc HT
 go_wp2_with fail
 refine hfi.mono ?_;rintro e w2 ⟨v2,rfl,hv2,hb2⟩;have HT2:=hid (HT1.out.far hb2);obtain ⟨g1,g2,g3,g4,g5,g6,g7,g8,g9,g10,rfl,hg1,hg2⟩:=bG hv2;have HG1:=hid hg1;have HG2:=hid hg2;obtain ⟨⟨r0,r1,r2,r3,r4,r5⟩,fr⟩:=ResR.cells HT2.out.hr;clear hv2 hb2 hfi HT1 hg1 hg2
 go_wp2
 exact j2 results203 rfl rfl HT2.out.hr HG1.out HG2.out HT2.out.bel (by omega)
theorem vX (x:Value) (p:Rat) (w:World) (hx:RV w x p)  :Calls prog 204 #[x] w (my (((p.den:Int):Int):Rat) w):=by
 have hc:=fun W (hW:Below w.heap.size w W)=>jE x p W (hx.far hW)
 obtain ⟨s1,b1,a1,n1,c1,s2,b2,a2,n2,c2,rfl,h1,h2⟩:=bG hx;have HT:=hid (OneR.new w (.int .i64 s1) (.bool b1) (.slice a1 n1 c1) (.int .i64 s2) (.bool b2) (.slice a2 n2 c2) _ rfl);clear hx h1 h2
 go_enter func204,ntmps204
 go_wp2_with fail
 refine (hc _ HT.out.bel).mono ?_;rintro e w1 ⟨v1,rfl,hv1,hb1⟩;have HT1:=hid (HT.out.far hb1);have hfi:=fH v1 _ w1 hv1;clear hv1 hb1 hc HT
 go_wp2_with fail
 refine hfi.mono ?_;rintro e w2 ⟨v2,rfl,hv2,hb2⟩;have HT2:=hid (HT1.out.far hb2);obtain ⟨g1,g2,g3,g4,g5,g6,g7,g8,g9,g10,rfl,hg1,hg2⟩:=bG hv2;have HG1:=hid hg1;have HG2:=hid hg2;obtain ⟨⟨r0,r1,r2,r3,r4,r5⟩,fr⟩:=ResR.cells HT2.out.hr;clear hv2 hb2 hfi HT1 hg1 hg2
 go_wp2
 exact j2 results204 rfl rfl HT2.out.hr HG1.out HG2.out HT2.out.bel (by omega)
theorem zx {d:Nat} {p:Rat} (hp:DS d p) (hd:d≤3000) (W:World) (h:Env W):Calls prog 166 #[.string (TX p)] W (ig (-p) W):=by
 have hpa:=pD hp hd W h;have HRS:Hid (RS 334 p):=hid (rf hp (by omega));have HSZ:=hid (Nmx.DS.parts hp.neg);have HE:=hid h;clear h hp;generalize TX p=tp at *
 go_enter func166,ntmps166
 go_wp2_with fail
 go_enter func201,ntmps201
 go_wp2_with fail
 refine hpa.mono ?_;rintro e w1 ⟨v1,rfl,hv1,hb1⟩;have HV1:=hid hv1;have HB1:=hid hb1;have hf:=fun (W:World) (hW:Below w1.heap.size w1 W)=>tE v1 p W (HV1.out.far hW)
 obtain ⟨s1,b1,a1,n1,c1,s2,b2,a2,n2,c2,rfl,-,-⟩:=bG hv1;have HB0:Hid (Below w1.heap.size w1 (w1.alloc (.cells #[.int .i64 s1,.bool b1,.slice a1 n1 c1,.int .i64 s2,.bool b2,.slice a2 n2 c2] 75))):=hid ((am _ _).alloc (aj _) _);have hf0:=hf _ HB0.out;clear hv1 hb1 hpa hf
 go_wp2_with fail
 refine hf0.mono ?_;rintro e w2 ⟨v3,rfl,hv3,hb3⟩;have HB2:=hid (HB1.out.trans ((HB0.out.trans (hb3.mono HB0.out.size)).mono HB1.out.size));have hst:=eE v3 _ w2 hv3 (HE.out.far HB2.out) (by have:=HSZ.out;omega);clear hv3 hb3 hf0
 go_wp2_with fail
 refine hst.mono ?_;rintro e w3 ⟨rfl,hb4⟩;have HB3:=hid (HB2.out.trans (hb4.mono HB2.out.size));clear hb4 hst
 go_wp2
 go_ret
 exact ⟨rfl,HB3.out⟩
theorem zz {d:Nat} {p:Rat} (hp:DS d p) (hd:d≤3000) (W:World) (h:Env W):Calls prog 167 #[.string (TX p)] W (ig ((p.num:Int):Rat) W):=by
 have hpa:=pD hp hd W h;have HRS:Hid (RS 334 p):=hid (rf hp (by omega));have HSZ:=hid (Nmx.DS.parts hp.num);have HE:=hid h;clear h hp;generalize TX p=tp at *
 go_enter func167,ntmps167
 go_wp2_with fail
 go_enter func201,ntmps201
 go_wp2_with fail
 refine hpa.mono ?_;rintro e w1 ⟨v1,rfl,hv1,hb1⟩;have HV1:=hid hv1;have HB1:=hid hb1;have hf:=fun (W:World) (hW:Below w1.heap.size w1 W)=>vW v1 p W (HV1.out.far hW)
 obtain ⟨s1,b1,a1,n1,c1,s2,b2,a2,n2,c2,rfl,-,-⟩:=bG hv1;have HB0:Hid (Below w1.heap.size w1 (w1.alloc (.cells #[.int .i64 s1,.bool b1,.slice a1 n1 c1,.int .i64 s2,.bool b2,.slice a2 n2 c2] 75))):=hid ((am _ _).alloc (aj _) _);have hf0:=hf _ HB0.out;clear hv1 hb1 hpa hf
 go_wp2_with fail
 refine hf0.mono ?_;rintro e w2 ⟨v3,rfl,hv3,hb3⟩;have HB2:=hid (HB1.out.trans ((HB0.out.trans (hb3.mono HB0.out.size)).mono HB1.out.size));have hst:=eE v3 _ w2 hv3 (HE.out.far HB2.out) (by have:=HSZ.out;omega);clear hv3 hb3 hf0
 go_wp2_with fail
 refine hst.mono ?_;rintro e w3 ⟨rfl,hb4⟩;have HB3:=hid (HB2.out.trans (hb4.mono HB2.out.size));clear hb4 hst
 go_wp2
 go_ret
 exact ⟨rfl,HB3.out⟩
theorem zA {d:Nat} {p:Rat} (hp:DS d p) (hd:d≤3000) (W:World) (h:Env W):Calls prog 168 #[.string (TX p)] W (ig (((p.den:Int)):Rat) W):=by
 have hpa:=pD hp hd W h;have HRS:Hid (RS 334 p):=hid (rf hp (by omega));have HSZ:=hid (Nmx.DS.parts hp.den);have HE:=hid h;clear h hp;generalize TX p=tp at *
 go_enter func168,ntmps168
 go_wp2_with fail
 go_enter func201,ntmps201
 go_wp2_with fail
 refine hpa.mono ?_;rintro e w1 ⟨v1,rfl,hv1,hb1⟩;have HV1:=hid hv1;have HB1:=hid hb1;have hf:=fun (W:World) (hW:Below w1.heap.size w1 W)=>vX v1 p W (HV1.out.far hW)
 obtain ⟨s1,b1,a1,n1,c1,s2,b2,a2,n2,c2,rfl,-,-⟩:=bG hv1;have HB0:Hid (Below w1.heap.size w1 (w1.alloc (.cells #[.int .i64 s1,.bool b1,.slice a1 n1 c1,.int .i64 s2,.bool b2,.slice a2 n2 c2] 75))):=hid ((am _ _).alloc (aj _) _);have hf0:=hf _ HB0.out;clear hv1 hb1 hpa hf
 go_wp2_with fail
 refine hf0.mono ?_;rintro e w2 ⟨v3,rfl,hv3,hb3⟩;have HB2:=hid (HB1.out.trans ((HB0.out.trans (hb3.mono HB0.out.size)).mono HB1.out.size));have hst:=eE v3 _ w2 hv3 (HE.out.far HB2.out) (by have:=HSZ.out;omega);clear hv3 hb3 hf0
 go_wp2_with fail
 refine hst.mono ?_;rintro e w3 ⟨rfl,hb4⟩;have HB3:=hid (HB2.out.trans (hb4.mono HB2.out.size));clear hb4 hst
 go_wp2
 go_ret
 exact ⟨rfl,HB3.out⟩
end Go.Proofs.YtpkfnnkbfphfbaaGreatDoor

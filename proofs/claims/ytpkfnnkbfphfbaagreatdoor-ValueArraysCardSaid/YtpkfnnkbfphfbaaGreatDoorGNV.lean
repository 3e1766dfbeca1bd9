/- The functions of package number at texts of numbers. -/
import Derived.Test.YtpkfnnkbfphfbaaGreatDoorGNS
import Derived.Test.YtpkfnnkbfphfbaaGreatDoorGRG
set_option maxRecDepth 100000
set_option maxHeartbeats 40000000
namespace Go.Proofs.YtpkfnnkbfphfbaaGreatDoor
open Go.RowKit Nmx

theorem decI_lt (z:Int):z.natAbs<10 ^ (decI z).length:=Nat.lt_of_lt_of_le (dec_lt z.natAbs) (ten_le (decI_ge z))
theorem fit_text {l:List UInt8} {z:Int} (h:canonF l=some z) (hl:l.length≤8000):Fit z:=by
  have h1:=decI_lt z
  rw[canonF_some h] at h1
  obtain ⟨k,hk⟩:∃k,k=889:=⟨_,rfl⟩
  exact fit_of (k:=k) (ten_words (d:=l.length) (Nat.le_of_lt h1) (by omega)) (by omega)
theorem gcdAt_any {l:List UInt8} (hl:l.length≤8000):GcdAt l:=fun n d h1 h2 h3=>by
  have l1:(upto l).length≤l.length:=by unfold upto;exact (List.takeWhile_sublist _).length_le
  have l2:(behind l).length≤l.length:=by
    unfold behind
    rw[List.length_drop]
    exact Nat.le_trans (Nat.sub_le _ _) (List.dropWhile_sublist _).length_le
  exact gcdOk_any (fit_text h1 (by omega)) (fit_text h2 (by omega))
theorem ds_rs {d k:Nat} {q:Rat} (h:DS d q) (hk:d<9*k):RS k q:=⟨ten_words (Nat.le_of_lt h.1) hk,ten_words h.2 hk⟩
theorem parseT {d:Nat} {p:Rat} (hp:DS d p) (hd:d≤3000) (W:World) (h:Env W):Calls Tryz.prog 56 #[.string (TX p)] W fun e w'=>∃v,e=.returned (.tuple #[v,.bool true])∧RV w' v p∧Below W.heap.size W w':=by
  have hs:=DS.sz hp
  have hc:=parse_env (TX p) W (by omega) h (gcdAt_any (by rw[size_data];omega))
  unfold ParsePost at hc
  rw[tx_ratF] at hc
  exact hc
theorem pairT {d e:Nat} {p q:Rat} (hp:DS d p) (hq:DS e q) (hd:d≤3000) (he:e≤3000) (W:World) (h:Env W):Calls Tryz.prog 88 #[.string (TX p),.string (TX q)] W fun e w'=>∃v1 v2,e=.returned (.tuple #[v1,v2,.bool true])∧RV w' v1 p∧RV w' v2 q∧Below W.heap.size W w':=by
  have hs:=DS.sz hp
  have ht:=DS.sz hq
  have hc:=pair_any (TX p) (TX q) W (by omega) (by omega) h (gcdAt_any (by rw[size_data];omega)) (gcdAt_any (by rw[size_data];omega))
  unfold PairPost at hc
  rw[tx_ratF,tx_ratF] at hc
  exact hc

section
theorem numIsIntT {d:Nat} {p:Rat} (hp:DS d p) (hd:d≤3000) (W:World) (h:Env W):Calls Tryz.prog 32 #[.string (TX p)] W fun e w'=>e=.returned (.bool (decide (p.den=1)))∧Below W.heap.size W w':=by
  have hs:=DS.sz hp
  have hc:=numIsInt_any (TX p) W (by omega) h (gcdAt_any (by rw[size_data];omega))
  rw[tx_ratF] at hc
  exact hc
theorem numSignT {d:Nat} {p:Rat} (hp:DS d p) (hd:d≤3000) (W:World) (h:Env W):Calls Tryz.prog 155 #[.string (TX p)] W fun e w'=>e=.returned (.int .i64 (sgnI p.num))∧Below W.heap.size W w':=by
  have hs:=DS.sz hp
  have hc:=numSign_any (TX p) W (by omega) h (gcdAt_any (by rw[size_data];omega))
  rw[tx_ratF] at hc
  exact hc


end

def modF (a b:Int):Int:=(a % 18446744073709551616) % b
theorem mod_any (a b:Int) (w:World) (hb:1≤b) (hb':b≤1000000000000000000):
    Calls Tryz.prog 10 #[.int .i64 a,.int .i64 b] w fun e w'=>e=.returned (.int .i64 (modF a b))∧w=w':=by
  have hwr:IntKind.u64.wrap a=a % 18446744073709551616:=by rw[IntKind.wrap_u64]
  have HW:=Lib.hid hwr
  clear hwr
  go_enter Tryz.func10,Tryz.ntmps10
  go_wp2
  go_ret
  refine ⟨ret_int ?_,rfl⟩
  rw[HW.out,Int.tmod_eq_emod_of_nonneg (by omega)]
  unfold modF
  have h0:=Int.emod_nonneg (a % 18446744073709551616) (show b≠0 by omega)
  have h3:=Int.emod_lt_of_pos (a % 18446744073709551616) (show 0<b by omega)
  exact IntWalk.wrap64_in _ ⟨by omega,by omega⟩

theorem grown_refl (w:World) (r:Option Nat):w.grownBy w r:=⟨rfl,rfl,rfl,Nat.le_refl _,fun _ _ _=>rfl⟩
theorem grown_trans {w w1 w2:World} {r:Option Nat} (h:w.grownBy w1 r) (h2:w1.grownBy w2 r):w.grownBy w2 r:=
  ⟨h2.os.trans h.os,h2.tape.trans h.tape,h2.output.trans h.output,Nat.le_trans h.size h2.size,fun k hk hr=>(h2.block k (Nat.lt_of_lt_of_le hk h.size) hr).trans (h.block k hk hr)⟩
theorem grown_drewN {w w1:World} {r:Option Nat} (h:w.grownBy w1 r) (n:Nat):w.grownBy (w1.drewN n) r:=
  let b:=below_drewN (Below.refl 0 w1) n
  ⟨b.os.trans h.os,b.tape.trans h.tape,b.output.trans h.output,Nat.le_trans h.size b.size,fun k hk hr=>h.block k hk hr⟩
theorem grown_setCell {w w1:World} {r:Nat} (h:w.grownBy w1 (some r)) (j:Nat) (v:Value):w.grownBy (w1.setCell ⟨r,j,none⟩ v) (some r):=
  ⟨h.os,h.tape,h.output,by simpa [World.setCell] using h.size,fun k hk hr=>by rw[Below.heap_setCell _ _ _ _ (by show k≠r;exact fun e=>hr (by rw[e]))];exact h.block k hk hr⟩
structure Ch (C:Nat) (ao:Option Addr) (n cap:Nat) (w:World):Prop where
  blk:∃i:Nat,i≤n∧w.heap[C]? =some (.cells #[.slice ao n cap,.int .i64 i] 60 (0,0))
  few:n≤400
  rd:n≠0→∃b off,ao=some ⟨b,off,none⟩∧b<C∧∀t,t<n→∃x:Int,w.cell? ⟨b,off+t,none⟩=some (.int .i64 x)
theorem Ch.lt {C:Nat} {ao:Option Addr} {n cap:Nat} {w:World} (h:Ch C ao n cap w):C<w.heap.size:=by
  obtain ⟨i,_,h⟩:=h.blk
  exact (Array.getElem?_eq_some_iff.1 h).1
theorem Ch.grown {C:Nat} {ao:Option Addr} {n cap:Nat} {w w':World} {r:Option Nat} (h:Ch C ao n cap w) (hg:w.grownBy w' r) (hr:∀k,r=some k→C<k):Ch C ao n cap w':=by
  have hlt:=h.lt
  refine ⟨?_,h.few,fun hn=>?_⟩
  · obtain ⟨i,hi,hb⟩:=h.blk
    exact ⟨i,hi,(hg.block C hlt (fun e=>by have:=hr C e.symm;omega)).trans hb⟩
  · obtain ⟨b,off,e,hb,hx⟩:=h.rd hn
    refine ⟨b,off,e,hb,fun t ht=>?_⟩
    obtain ⟨x,hx⟩:=hx t ht
    exact ⟨x,hg.cell hx (fun e=>by have:=hr b e.symm;omega)⟩
theorem Ch.drewN {C:Nat} {ao:Option Addr} {n cap:Nat} {w:World} (h:Ch C ao n cap w) (k:Nat):Ch C ao n cap (w.drewN k):=h.grown (grown_drewN (grown_refl _ none) k) (by simp)
theorem Ch.step {C:Nat} {ao:Option Addr} {n cap:Nat} {w:World} (h:Ch C ao n cap w) (i:Nat) (hi:i≤n) (q:Int) (hq:q=i):Ch C ao n cap (w.setCell ⟨C,1,none⟩ (.int .i64 q)):=by
  subst hq
  refine ⟨?_,h.few,fun hn=>?_⟩
  · obtain ⟨j,_,hb⟩:=h.blk
    refine ⟨i,hi,?_⟩
    simp[World.setCell,Array.getElem?_modify,hb]
  · obtain ⟨b,off,e,hb,hx⟩:=h.rd hn
    refine ⟨b,off,e,hb,fun t ht=>?_⟩
    obtain ⟨x,hx⟩:=hx t ht
    refine ⟨x,?_⟩
    rw[World.cell?_setCell_other _ _ _ _ (by simp;try omega)];exact hx
theorem mod_q (a b:Int) (w:World) (hb:1≤b) (hb2:b≤1000000000000000000):Calls Tryz.prog 10 #[.int .i64 a,.int .i64 b] w fun e w1=>e=.returned (.int .i64 (modF a b))∧w1=w:=(mod_any a b w hb hb2).mono fun _ _ h=>⟨h.1,h.2.symm⟩

def NextPost (C:Nat) (ao:Option Addr) (n cap:Nat) (w:World) (k:Nat) (e:Ending) (w':World):Prop:=
  ∃r:Nat,r<k∧e=.returned (.int .i64 r)∧Ch C ao n cap w'∧w.grownBy w' (some C)∧w'.heap.size=w.heap.size

theorem next_any (C:Nat) (ao:Option Addr) (n cap:Nat) (w:World) (k:Nat) (hk:1≤k) (hk2:k≤1000000000000000000) (h:Ch C ao n cap w):
    Calls Tryz.prog 38 #[.pointer (some ⟨C,0,none⟩),.int .i64 k] w (NextPost C ao n cap w k):=by
  obtain ⟨i,hi,hb⟩:=h.blk
  have c0:w.cell? ⟨C,0,none⟩=some (.slice ao n cap):=by simp[World.cell?,hb]
  have c1:w.cell? ⟨C,1,none⟩=some (.int .i64 i):=by simp[World.cell?,hb]
  have hf:w.frozen? ⟨C,1,none⟩=false:=by simp[World.frozen?,hb]
  have HC:=Lib.hid h
  have hfew:=h.few
  by_cases hlt:i<n
  · obtain ⟨b,off,hao,hbC,hx⟩:=h.rd (by omega)
    obtain ⟨x,hx⟩:=hx i hlt
    subst hao
    have HX:=Lib.hid hx
    clear h hb hx
    go_enter Tryz.func38,Tryz.ntmps38
    go_wp2_with fail
    go_quiet (fail)
    go_wp2_with fail
    have hS:=Lib.hid ((HC.out.drewN nq).step (i+1) hlt ((i:Int)+1) rfl)
    have hG:=Lib.hid (grown_setCell (grown_drewN (grown_refl w (some C)) nq) 1 (.int .i64 ((i:Int)+1)))
    have hz:Hid (((w.drewN nq).setCell ⟨C,1,none⟩ (.int .i64 ((i:Int)+1))).heap.size=w.heap.size):=Lib.hid (by simp[World.setCell])
    have d0:((w.drewN nq).setCell ⟨C,1,none⟩ (.int .i64 ((i:Int)+1))).cell? ⟨C,0,none⟩=some (.slice (some ⟨b,off,none⟩) n cap):=by
      rw[World.cell?_setCell_other _ _ _ _ (by simp)];exact c0
    have d1:((w.drewN nq).setCell ⟨C,1,none⟩ (.int .i64 ((i:Int)+1))).cell? ⟨C,1,none⟩=some (.int .i64 ((i:Int)+1)):=World.cell?_setCell_same _ _ _ c1
    have d2:((w.drewN nq).setCell ⟨C,1,none⟩ (.int .i64 ((i:Int)+1))).cell? ⟨b,off+i,none⟩=some (.int .i64 x):=by
      rw[World.cell?_setCell_other _ _ _ _ (by simp;try omega)];exact HX.out
    clear c0 c1 hf hx HC HX
    generalize (w.drewN nq).setCell ⟨C,1,none⟩ (.int .i64 ((i:Int)+1))=w2 at *
    have hwr:IntKind.i64.wrap (i:Int)=i:=by rw[IntKind.wrap_i64];omega
    have hi0:(0:Int)≤(i:Int):=by omega
    have hi1:(i:Int)<(n:Int):=by omega
    go_quiet ((go_at_call 10;exact Calls.quiet_of_same (mod_q _ _ _ (by omega) (by omega))))
    go_wp2_with fail
    go_ret
    have hm0:0≤modF x k:=by unfold modF;exact Int.emod_nonneg _ (by omega)
    have hm1:modF x k<k:=by unfold modF;exact Int.emod_lt_of_pos _ (by omega)
    exact ⟨(modF x k).toNat,by omega,congrArg (fun z=>Ending.returned (Value.int .i64 z)) (Int.toNat_of_nonneg hm0).symm,hS.out.drewN _,grown_drewN hG.out _,hz.out⟩
  · have:i=n:=by omega
    subst this
    clear h hb
    go_enter Tryz.func38,Tryz.ntmps38
    go_wp2_with fail
    go_quiet (fail)
    go_wp2_with fail
    go_ret
    exact ⟨0,by omega,rfl,HC.out.drewN _,grown_drewN (grown_refl _ _) _,rfl⟩
structure ArgI (w:World) (ao:Option Addr) (len cap:Nat):Prop where
  le:len≤cap
  most:cap≤maxLen
  rd:0<cap→∃b off,ao=some ⟨b,off,.none⟩∧b<w.heap.size∧∀t,t<len→∃x:Int,w.cell? ⟨b,off+t,.none⟩=some (.int .i64 x)
def NewPost (w:World) (ao:Option Addr) (len cap:Nat) (e:Ending) (w':World):Prop:=
  e=.returned (.pointer (some ⟨w.heap.size,0,none⟩))∧w'=w.alloc (.cells #[.slice ao (min len 400) cap,.int .i64 0] 60)
theorem new_any (ao:Option Addr) (len cap:Nat) (w:World) (h:ArgI w ao len cap):
    Calls Tryz.prog 15 #[.slice ao len cap] w (NewPost w ao len cap):=by
  have hle:=h.le
  have hm:=h.most
  unfold maxLen at hm
  by_cases hc:cap=0
  · subst hc
    have hl:len=0:=by omega
    subst hl
    clear h
    cases ao with
    | none=>
      go_enter Tryz.func15,Tryz.ntmps15
      go_wp2
      go_ret
      exact ⟨rfl,rfl⟩
    | some a=>
      obtain ⟨b,off,spot⟩:=a
      cases spot with
      | none=>
        go_enter Tryz.func15,Tryz.ntmps15
        go_wp2
        go_ret
        exact ⟨rfl,rfl⟩
      | some sp=>
        go_enter Tryz.func15,Tryz.ntmps15
        go_wp2
        go_ret
        exact ⟨rfl,rfl⟩
  · obtain ⟨b,off,rfl,hb,_⟩:=h.rd (by omega)
    clear h
    by_cases hlt:len≤400
    · have hmin:min (len:Int) 400=len:=by omega
      have hmin2:min len 400=len:=by omega
      have hi1:(len:Int)≤(cap:Int):=by omega
      go_enter Tryz.func15,Tryz.ntmps15
      go_wp2
      go_ret
      exact ⟨rfl,by rw[hmin2]⟩
    · have hmin:min (len:Int) 400=400:=by omega
      have hmin2:min len 400=400:=by omega
      have hi1:(400:Int)≤(cap:Int):=by omega
      go_enter Tryz.func15,Tryz.ntmps15
      go_wp2
      go_ret
      exact ⟨rfl,by rw[hmin2]⟩


theorem grown_below {w w':World} (h:Below w.heap.size w w'):w.grownBy w' none:=⟨h.os,h.tape,h.output,h.size,fun k hk _=>h.block k hk⟩
theorem grown_more {w w':World} {r:Option Nat} (h:w.grownBy w' none):w.grownBy w' r:=⟨h.os,h.tape,h.output,h.size,fun k hk _=>h.block k hk (by simp)⟩
theorem grown_call {w w1 w2:World} {r:Option Nat} (h:w.grownBy w1 r) (h2:Below w1.heap.size w1 w2):w.grownBy w2 r:=grown_trans h (grown_more (grown_below h2))
theorem Ch.call {C:Nat} {ao:Option Addr} {n cap:Nat} {w w':World} (h:Ch C ao n cap w) (hb:Below w.heap.size w w'):Ch C ao n cap w':=h.grown (grown_below hb) (by simp)
def IntPost (C:Nat) (ao:Option Addr) (n cap:Nat) (w:World) (e:Ending) (w':World):Prop:=∃z:Int,z.natAbs<10 ^ 24∧e=.returned (.string (TX (z:Rat)))∧Ch C ao n cap w'∧w.grownBy w' (some C)
theorem refFromIntT (z:Int) (h1: -9223372036854775808≤z) (h2:z≤9223372036854775807) (W:World):Calls Tryz.prog 40 #[.int .i64 z] W (GetsT (z:Rat) W):=by
  have h:=refFromInt_any z W h1 h2
  unfold GetsT TX
  rw[textQ_int]
  exact h
theorem ten24:(10:Nat) ^ 24=1000000000000000000000000:=by decide
section
theorem integer_any (C:Nat) (ao:Option Addr) (n cap:Nat) (w:World) (h:Ch C ao n cap w):Calls Tryz.prog 17 #[.pointer (some ⟨C,0,none⟩)] w (IntPost C ao n cap w):=by
  have HC0:=Lib.hid h
  clear h
  go_enter Tryz.func17,Tryz.ntmps17
  go_wp2_with fail
  refine (next_any _ _ _ _ _ 8 (by omega) (by omega) HC0.out).mono ?_
  rintro e w1 ⟨r1,hr1,rfl,hch,hg,-⟩
  have HC1:=Lib.hid hch
  have HG1:=Lib.hid (hg)
  clear hch hg
  have q0:(0:Int)≤(r1:Int):=by omega
  have q1:(r1:Int)<8:=by omega
  by_cases h6:r1=6
  · subst h6
    go_wp2_with fail
    refine (next_any _ _ _ _ _ 2001 (by omega) (by omega) HC1.out).mono ?_
    rintro e w2 ⟨r2,hr2,rfl,hch,hg,-⟩
    have HC2:=Lib.hid hch
    have HG2:=Lib.hid (grown_trans HG1.out hg)
    clear hch hg
    have q2:(0:Int)≤(r2:Int):=by omega
    have q3:(r2:Int)<2001:=by omega
    obtain ⟨z,hz⟩:∃z:Int,(r2:Int)-1000=z:=⟨_,rfl⟩
    have HZ:Hid (z.natAbs<10 ^ 24):=Lib.hid (by rw[ten24];omega)
    go_wp2_with fail
    refine (refFromIntT z (by omega) (by omega) _).mono ?_
    rintro e w3 ⟨rfl,hb⟩
    have HC3:=Lib.hid (HC2.out.call hb)
    have HG3:=Lib.hid (grown_call HG2.out hb)
    clear hb
    clear hz
    go_wp2
    go_ret
    exact ⟨z,HZ.out,rfl,HC3.out,HG3.out⟩
  · by_cases h7:r1=7
    · subst h7
      go_wp2_with fail
      refine (next_any _ _ _ _ _ 1099511627776 (by omega) (by omega) HC1.out).mono ?_
      rintro e w2 ⟨r2,hr2,rfl,hch,hg,-⟩
      have HC2:=Lib.hid hch
      have HG2:=Lib.hid (grown_trans HG1.out hg)
      clear hch hg
      have q2:(0:Int)≤(r2:Int):=by omega
      have q3:(r2:Int)<1099511627776:=by omega
      obtain ⟨y,hy⟩:∃y:Int,(r2:Int)-549755813888=y:=⟨_,rfl⟩
      have hy1: -549755813888≤y:=by omega
      have hy2:y≤549755813888:=by omega
      go_wp2_with fail
      refine (refFromIntT y (by omega) (by omega) _).mono ?_
      rintro e w3 ⟨rfl,hb⟩
      have HC3:=Lib.hid (HC2.out.call hb)
      have HG3:=Lib.hid (grown_call HG2.out hb)
      clear hb
      clear hy q2 q3
      go_wp2_with fail
      refine (next_any _ _ _ _ _ 1099511627776 (by omega) (by omega) HC3.out).mono ?_
      rintro e w4 ⟨r4,hr4,rfl,hch,hg,-⟩
      have HC4:=Lib.hid hch
      have HG4:=Lib.hid (grown_trans HG3.out hg)
      clear hch hg
      have q4:(0:Int)≤(r4:Int):=by omega
      have q5:(r4:Int)<1099511627776:=by omega
      have hfr:=fun W=>refFromIntT (r4:Int) (by omega) (by omega) W
      unfold GetsT at hfr
      obtain ⟨tr,htr⟩:∃tr,TX (((r4:Int)):Rat)=tr:=⟨_,rfl⟩
      rw[htr] at hfr
      have HTR:=Lib.hid htr
      clear htr
      go_wp2_with fail
      refine (hfr _).mono ?_
      rintro e w5 ⟨rfl,hb⟩
      have HC5:=Lib.hid (HC4.out.call hb)
      have HG5:=Lib.hid (grown_call HG4.out hb)
      clear hb
      have d1:DS 24 ((y:Int):Rat):=DS.int (by rw[ten24];omega)
      have d2:DS 24 (((r4:Int)):Rat):=DS.int (by rw[ten24];omega)
      have hm:=fun W=>refMulT d1 d2 (by omega) (by omega) W
      rw[←Rat.intCast_mul] at hm
      have HZ:Hid ((y*(r4:Int)).natAbs<10 ^ 24):=Lib.hid (by
        rw[Int.natAbs_mul,ten24]
        have h1:y.natAbs≤549755813888:=by omega
        have h2:((r4:Int)).natAbs≤1099511627776:=by omega
        have:=Nat.mul_le_mul h1 h2
        omega)
      obtain ⟨z,hz⟩:∃z:Int,y*(r4:Int)=z:=⟨_,rfl⟩
      rw[hz] at hm HZ
      unfold GetsT at hm
      rw[HTR.out] at hm
      clear d1 d2 hz hy1 hy2 HTR hfr
      generalize TX (y:Rat)=ty at *
      go_wp2_with fail
      refine (hm _).mono ?_
      rintro e w6 ⟨rfl,hb⟩
      have HC6:=Lib.hid (HC5.out.call hb)
      have HG6:=Lib.hid (grown_call HG5.out hb)
      clear hb
      go_wp2
      go_ret
      exact ⟨z,HZ.out,rfl,HC6.out,HG6.out⟩
    · have h6i:((r1:Int)==6)=false:=by simp;omega
      have h7i:((r1:Int)==7)=false:=by simp;omega
      clear h6 h7
      go_wp2_with fail
      refine (next_any _ _ _ _ _ 9 (by omega) (by omega) HC1.out).mono ?_
      rintro e w2 ⟨r2,hr2,rfl,hch,hg,-⟩
      have HC2:=Lib.hid hch
      have HG2:=Lib.hid (grown_trans HG1.out hg)
      clear hch hg
      have q2:(0:Int)≤(r2:Int):=by omega
      have q3:(r2:Int)<9:=by omega
      obtain ⟨z,hz⟩:∃z:Int,(r2:Int)-4=z:=⟨_,rfl⟩
      have HZ:Hid (z.natAbs<10 ^ 24):=Lib.hid (by rw[ten24];omega)
      go_wp2_with fail
      refine (refFromIntT z (by omega) (by omega) _).mono ?_
      rintro e w3 ⟨rfl,hb⟩
      have HC3:=Lib.hid (HC2.out.call hb)
      have HG3:=Lib.hid (grown_call HG2.out hb)
      clear hb
      clear hz
      go_wp2
      go_ret
      exact ⟨z,HZ.out,rfl,HC3.out,HG3.out⟩
end

end Go.Proofs.YtpkfnnkbfphfbaaGreatDoor
/- Num, Den, Neg, Valid of number at texts of numbers. -/
namespace Go.Proofs.YtpkfnnkbfphfbaaGreatDoor
open Go.RowKit Nmx
section
theorem numNum_in (x:Value) (p:Rat) (w:World) (hx:RV w x p)  :Calls Tryz.prog 203 #[x] w (GetsQ ((p.num:Int):Rat) w):=by
  have hc:=fun W (hW:Below w.heap.size w W)=>ratNum_any x p W (hx.far hW)
  obtain ⟨s1,b1,a1,n1,c1,s2,b2,a2,n2,c2,rfl,h1,h2⟩:=rv_form hx
  have HT:=Lib.hid (OneR.new w (.int .i64 s1) (.bool b1) (.slice a1 n1 c1) (.int .i64 s2) (.bool b2) (.slice a2 n2 c2) _ rfl)
  clear hx h1 h2
  go_enter Tryz.func203,Tryz.ntmps203
  go_wp2_with fail
  refine (hc _ HT.out.bel).mono ?_
  rintro e w1 ⟨v1,rfl,hv1,hb1⟩
  have HT1:=Lib.hid (HT.out.far hb1)
  have hfi:=ratFromInt_any v1 _ w1 hv1
  clear hv1 hb1 hc HT
  go_wp2_with fail
  refine hfi.mono ?_
  rintro e w2 ⟨v2,rfl,hv2,hb2⟩
  have HT2:=Lib.hid (HT1.out.far hb2)
  obtain ⟨g1,g2,g3,g4,g5,g6,g7,g8,g9,g10,rfl,hg1,hg2⟩:=rv_form hv2
  have HG1:=Lib.hid hg1
  have HG2:=Lib.hid hg2
  obtain ⟨⟨r0,r1,r2,r3,r4,r5⟩,fr⟩:=ResR.cells HT2.out.hr
  clear hv2 hb2 hfi HT1 hg1 hg2
  go_wp2
  exact end_rat Tryz.results203 rfl rfl HT2.out.hr HG1.out HG2.out HT2.out.bel (by omega)
theorem numDen_in (x:Value) (p:Rat) (w:World) (hx:RV w x p)  :Calls Tryz.prog 204 #[x] w (GetsQ (((p.den:Int):Int):Rat) w):=by
  have hc:=fun W (hW:Below w.heap.size w W)=>ratDen_any x p W (hx.far hW)
  obtain ⟨s1,b1,a1,n1,c1,s2,b2,a2,n2,c2,rfl,h1,h2⟩:=rv_form hx
  have HT:=Lib.hid (OneR.new w (.int .i64 s1) (.bool b1) (.slice a1 n1 c1) (.int .i64 s2) (.bool b2) (.slice a2 n2 c2) _ rfl)
  clear hx h1 h2
  go_enter Tryz.func204,Tryz.ntmps204
  go_wp2_with fail
  refine (hc _ HT.out.bel).mono ?_
  rintro e w1 ⟨v1,rfl,hv1,hb1⟩
  have HT1:=Lib.hid (HT.out.far hb1)
  have hfi:=ratFromInt_any v1 _ w1 hv1
  clear hv1 hb1 hc HT
  go_wp2_with fail
  refine hfi.mono ?_
  rintro e w2 ⟨v2,rfl,hv2,hb2⟩
  have HT2:=Lib.hid (HT1.out.far hb2)
  obtain ⟨g1,g2,g3,g4,g5,g6,g7,g8,g9,g10,rfl,hg1,hg2⟩:=rv_form hv2
  have HG1:=Lib.hid hg1
  have HG2:=Lib.hid hg2
  obtain ⟨⟨r0,r1,r2,r3,r4,r5⟩,fr⟩:=ResR.cells HT2.out.hr
  clear hv2 hb2 hfi HT1 hg1 hg2
  go_wp2
  exact end_rat Tryz.results204 rfl rfl HT2.out.hr HG1.out HG2.out HT2.out.bel (by omega)
theorem numNegT {d:Nat} {p:Rat} (hp:DS d p) (hd:d≤3000) (W:World) (h:Env W):Calls Tryz.prog 166 #[.string (TX p)] W (GetsT (-p) W):=by
  have hpa:=parseT hp hd W h
  have HRS:Hid (RS 334 p):=Lib.hid (ds_rs hp (by omega))
  have HSZ:=Lib.hid (Nmx.DS.parts hp.neg)
  have HE:=Lib.hid h
  clear h hp
  generalize TX p=tp at *
  go_enter Tryz.func166,Tryz.ntmps166
  go_wp2_with fail
  go_enter Tryz.func201,Tryz.ntmps201
  go_wp2_with fail
  refine hpa.mono ?_
  rintro e w1 ⟨v1,rfl,hv1,hb1⟩
  have HV1:=Lib.hid hv1
  have HB1:=Lib.hid hb1
  have hf:=fun (W:World) (hW:Below w1.heap.size w1 W)=>ratNeg_any v1 p W (HV1.out.far hW)
  obtain ⟨s1,b1,a1,n1,c1,s2,b2,a2,n2,c2,rfl,-,-⟩:=rv_form hv1
  have HB0:Hid (Below w1.heap.size w1 (w1.alloc (.cells #[.int .i64 s1,.bool b1,.slice a1 n1 c1,.int .i64 s2,.bool b2,.slice a2 n2 c2] 75))):=Lib.hid ((Below.refl _ _).alloc (Nat.le_refl _) _)
  have hf0:=hf _ HB0.out
  clear hv1 hb1 hpa hf
  go_wp2_with fail
  refine hf0.mono ?_
  rintro e w2 ⟨v3,rfl,hv3,hb3⟩
  have HB2:=Lib.hid (HB1.out.trans ((HB0.out.trans (hb3.mono HB0.out.size)).mono HB1.out.size))
  have hst:=ratString_any v3 _ w2 hv3 (HE.out.far HB2.out) (by have:=HSZ.out;omega)
  clear hv3 hb3 hf0
  go_wp2_with fail
  refine hst.mono ?_
  rintro e w3 ⟨rfl,hb4⟩
  have HB3:=Lib.hid (HB2.out.trans (hb4.mono HB2.out.size))
  clear hb4 hst
  go_wp2
  go_ret
  exact ⟨rfl,HB3.out⟩
theorem numNumT {d:Nat} {p:Rat} (hp:DS d p) (hd:d≤3000) (W:World) (h:Env W):Calls Tryz.prog 167 #[.string (TX p)] W (GetsT ((p.num:Int):Rat) W):=by
  have hpa:=parseT hp hd W h
  have HRS:Hid (RS 334 p):=Lib.hid (ds_rs hp (by omega))
  have HSZ:=Lib.hid (Nmx.DS.parts hp.num)
  have HE:=Lib.hid h
  clear h hp
  generalize TX p=tp at *
  go_enter Tryz.func167,Tryz.ntmps167
  go_wp2_with fail
  go_enter Tryz.func201,Tryz.ntmps201
  go_wp2_with fail
  refine hpa.mono ?_
  rintro e w1 ⟨v1,rfl,hv1,hb1⟩
  have HV1:=Lib.hid hv1
  have HB1:=Lib.hid hb1
  have hf:=fun (W:World) (hW:Below w1.heap.size w1 W)=>numNum_in v1 p W (HV1.out.far hW)
  obtain ⟨s1,b1,a1,n1,c1,s2,b2,a2,n2,c2,rfl,-,-⟩:=rv_form hv1
  have HB0:Hid (Below w1.heap.size w1 (w1.alloc (.cells #[.int .i64 s1,.bool b1,.slice a1 n1 c1,.int .i64 s2,.bool b2,.slice a2 n2 c2] 75))):=Lib.hid ((Below.refl _ _).alloc (Nat.le_refl _) _)
  have hf0:=hf _ HB0.out
  clear hv1 hb1 hpa hf
  go_wp2_with fail
  refine hf0.mono ?_
  rintro e w2 ⟨v3,rfl,hv3,hb3⟩
  have HB2:=Lib.hid (HB1.out.trans ((HB0.out.trans (hb3.mono HB0.out.size)).mono HB1.out.size))
  have hst:=ratString_any v3 _ w2 hv3 (HE.out.far HB2.out) (by have:=HSZ.out;omega)
  clear hv3 hb3 hf0
  go_wp2_with fail
  refine hst.mono ?_
  rintro e w3 ⟨rfl,hb4⟩
  have HB3:=Lib.hid (HB2.out.trans (hb4.mono HB2.out.size))
  clear hb4 hst
  go_wp2
  go_ret
  exact ⟨rfl,HB3.out⟩
theorem numDenT {d:Nat} {p:Rat} (hp:DS d p) (hd:d≤3000) (W:World) (h:Env W):Calls Tryz.prog 168 #[.string (TX p)] W (GetsT (((p.den:Int)):Rat) W):=by
  have hpa:=parseT hp hd W h
  have HRS:Hid (RS 334 p):=Lib.hid (ds_rs hp (by omega))
  have HSZ:=Lib.hid (Nmx.DS.parts hp.den)
  have HE:=Lib.hid h
  clear h hp
  generalize TX p=tp at *
  go_enter Tryz.func168,Tryz.ntmps168
  go_wp2_with fail
  go_enter Tryz.func201,Tryz.ntmps201
  go_wp2_with fail
  refine hpa.mono ?_
  rintro e w1 ⟨v1,rfl,hv1,hb1⟩
  have HV1:=Lib.hid hv1
  have HB1:=Lib.hid hb1
  have hf:=fun (W:World) (hW:Below w1.heap.size w1 W)=>numDen_in v1 p W (HV1.out.far hW)
  obtain ⟨s1,b1,a1,n1,c1,s2,b2,a2,n2,c2,rfl,-,-⟩:=rv_form hv1
  have HB0:Hid (Below w1.heap.size w1 (w1.alloc (.cells #[.int .i64 s1,.bool b1,.slice a1 n1 c1,.int .i64 s2,.bool b2,.slice a2 n2 c2] 75))):=Lib.hid ((Below.refl _ _).alloc (Nat.le_refl _) _)
  have hf0:=hf _ HB0.out
  clear hv1 hb1 hpa hf
  go_wp2_with fail
  refine hf0.mono ?_
  rintro e w2 ⟨v3,rfl,hv3,hb3⟩
  have HB2:=Lib.hid (HB1.out.trans ((HB0.out.trans (hb3.mono HB0.out.size)).mono HB1.out.size))
  have hst:=ratString_any v3 _ w2 hv3 (HE.out.far HB2.out) (by have:=HSZ.out;omega)
  clear hv3 hb3 hf0
  go_wp2_with fail
  refine hst.mono ?_
  rintro e w3 ⟨rfl,hb4⟩
  have HB3:=Lib.hid (HB2.out.trans (hb4.mono HB2.out.size))
  clear hb4 hst
  go_wp2
  go_ret
  exact ⟨rfl,HB3.out⟩
end
end Go.Proofs.YtpkfnnkbfphfbaaGreatDoor

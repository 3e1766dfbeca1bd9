/- (*reader).declare at variables alone. -/
import Derived.Test.YtapdbeaoakcjeaaGreatDoorEVC
set_option maxRecDepth 100000
set_option maxHeartbeats 40000000
open Go.Lib (hid)
namespace Go.Proofs.YtapdbeaoakcjeaaGreatDoor.Se
open Go.RowKit Nmx
def fU:List (ByteArray×Int)→List (ByteArray×Int)→List (ByteArray×Int)
 | V,[]=>V
 | V,p::l=>fU (if (bh p.1 V).isSome then V else eY p.1 p.2 V) l
def VarsAt (w:World) (g:Nat) (l:List (ByteArray×Int)):Prop:=∀j p,l[j]? =some p→w.cell? ⟨g,j*2,none⟩=some (.string p.1)∧w.cell? ⟨g,j*2+1,none⟩=some (.int .i64 p.2)
structure DC (S R V:Nat) (w:World) (O:Obj) (vs:List (ByteArray×Int)) (W:World):Prop where
 rd:W.heap[R]? =some O
 mv:MapS W V (asI vs)
 gr:w.grownBy W (some V)
theorem DC.far {S R V:Nat} {w:World} {O:Obj} {vs:List (ByteArray×Int)} {W W':World} (h:DC S R V w O vs W) (hb:Below W.heap.size W W'):DC S R V w O vs W':=
 ⟨(hb.block _ (ay h.rd)).trans h.rd,h.mv.far hb,fT h.gr hb h.gr.size⟩
theorem grown_trans {w w1 w2:World} {V:Nat} (h1:w.grownBy w1 (some V)) (h2:w1.grownBy w2 (some V)):w.grownBy w2 (some V):=
 ⟨h2.os.trans h1.os,h2.tape.trans h1.tape,h2.output.trans h1.output,aC h1.size h2.size,fun k hk hne=>(h2.block k (ap hk h1.size) hne).trans (h1.block k hk hne)⟩
theorem DC.put {S R V:Nat} {w:World} {O:Obj} {vs:List (ByteArray×Int)} {s:ByteArray} {v:Int} {W W':World} (h:DC S R V w O vs W) (hne:R≠V) (hm:MapS W' V (jO s (.int .i64 v) (asI vs))) (hg:W.grownBy W' (some V)):DC S R V w O (eY s v vs) W':=
 ⟨(hg.block R (ay h.rd) (fun e=>hne (aG e))).trans h.rd,by rw[zK] at hm;exact hm,grown_trans h.gr hg⟩
section
theorem jQ (R V F g cap:Nat) (ai ae ab av:Option Addr) (ni ci ne ce nb cb:Nat) (cf:Bool) (p er:Int) (vs l:List (ByteArray×Int)) (w:World)
    (hR:w.heap[R]? =some (rdC ai ni ci ae ne ce V F ab nb cb cf p er)) (hm:MapS w V (asI vs)) (hav:l.length≠0→av=some ⟨g,0,none⟩) (hg:g<w.heap.size) (hgV:g≠V) (hl:l.length≤100000) (hc:VarsAt w g l) (hok:∀q∈l,bH q.1.toList=true∧1≤q.2∧q.2≤4):
    Calls Tryz.prog 100 #[.pointer (some ⟨R,0,none⟩),.slice av l.length cap,.slice none 0 0] w fun e w'=>e=.returned (.bool true)∧DC 0 R V w (rdC ai ni ci ae ne ce V F ab nb cb cf p er) (fU vs l) w':=by
 have hRV:R≠V:=by
  rintro rfl;obtain ⟨es,c,hh,-⟩:=hm;rw[hh] at hR;cases hR
 have HRV:=hid hRV;have HDC:Hid (DC 0 R V w (rdC ai ni ci ae ne ce V F ab nb cb cf p er) vs w):=hid ⟨hR,hm,⟨rfl,rfl,rfl,ag _,fun _ _ _=>rfl⟩⟩;have HC:=hid hc;have HOK:=hid hok;have HAV:=hid hav;obtain ⟨n,hn⟩:∃n,l.length=n:=⟨_,rfl⟩
 have HN:=hid hn;rw[hn] at hl ⊢;clear hR hm hav hc hok hn hRV
 go_enter Tryz.func100,Tryz.ntmps100
 go_wp2
 go_loopw [21] (fun v wr=>∃(k:Nat) (us:List (ByteArray×Int)),k≤n∧v=.int .i64 k∧fU us (l.drop k)=fU vs l∧DC 0 R V w (rdC ai ni ci ae ne ce V F ab nb cb cf p er) us wr) (fun v _=>n-(intOf v).toNat)
 case atStart=>exact ⟨0,vs,aE _,rfl,rfl,HDC.out⟩
 case round=>
  clear HDC;obtain ⟨k,us,hk,rfl,hD,hdc⟩:=hrel;have HD:=hid hD;have HDC:=hid hdc;clear hD hdc;have hk0:(0:Int)≤(k:Int):=by omega
  by_cases hkn:k<n
  · have hkn':(k:Int)<(n:Int):=by omega
    have hkl:k<l.length:=by rw[HN.out];exact hkn
    obtain rfl:=HAV.out (by omega);obtain ⟨c0,c1⟩:=HC.out k _ (aq hkl);have hgw:∀q,wr.cell? ⟨g,q,none⟩=w.cell? ⟨g,q,none⟩:=fun q=>World.cell?_of_block (HDC.out.gr.block g hg (fun e=>hgV (aG e)))
    have q0:=(hgw _).trans c0;have q1:=(hgw _).trans c1;obtain ⟨o1,o2,o3⟩:=HOK.out _ (List.getElem_mem hkl);have HST:Hid (fU us (l[k]::l.drop (k+1))=fU vs l):=hid (by rw[←List.drop_eq_getElem_cons hkl];exact HD.out);clear HD hgw c0 c1;generalize l[k]=x at *;obtain ⟨nm,so⟩:=x;simp only at q0 q1 o1 o2 o3;have s1:decide (1≤so)=true:=by simpa using o2
    have s2:decide (so≤4)=true:=by simpa using o3
    have hbx:=heap_alloc_new wr (.cells #[.string nm,.int .i64 so] 46);have hal:=aD wr (.cells #[.string nm,.int .i64 so] 46);have HNM:Hid (∀W,Calls Tryz.prog 78 #[.string nm] W fun e w'=>e=.returned (.bool true)∧w'=W):=hid (fun W=>by have:=mx nm W;rwa [o1] at this);have HSO:Hid (∀W,Calls Tryz.prog 77 #[.int .i64 so] W fun e w'=>e=.returned (.bool true)∧w'=W):=hid (fun W=>by have:=mu so W;rwa [s1,s2] at this);have HDa:=hid (HDC.out.far hal);clear hal o1 o2 o3 s1 s2
    go_upto_region 6 with (first | (go_at_call 78;refine (HNM.out _).mono ?_;rintro e w1 ⟨rfl,hw1⟩;obtain rfl:=hw1.symm) | (go_at_call 77;refine (HSO.out _).mono ?_;rintro e w1 ⟨rfl,hw1⟩;obtain rfl:=hw1.symm))
    generalize wr.alloc (.cells #[.string nm,.int .i64 so] 46)=wa at *;generalize wr.heap.size=D at *;clear q0 q1 HNM HSO;cases hv:bh nm us with
    | none=>
      have HF:=hid (eZ 0 hv);have HS2:Hid (fU (eY nm so us) (l.drop (k+1))=fU vs l):=hid (by rw[←HST.out];simp only[fU];rw[hv];rfl);clear HST hv;refine aV [[],[0],[0,1],[0,1,2],[],[4],[0,1,2,3,4,5],[0,1,2,3,4,5,6],[0,1,2,3,4,5,6,7],[0,1,2,3,4,5,6,7],[0,1,2,3,4,5,6,7,8],[0,1,2,3,4,5,6,7,8,9,10]] (fun W=>DC 0 R V w (rdC ai ni ci ae ne ce V F ab nb cb cf p er) us W∧W.heap[D]? =some (.cells #[.string nm,.int .i64 so] 46 (0,0))) (fun _=>True) ?_
      iterate 6
       apply aR
       · intro x;go_simp;done
       · intro x W R hW hF hR;have rd:=hW.1.rd;unfold rdC at rd;have c2:=ac rd 2;have d0:=ac hW.2 0;have d1:=ac hW.2 1;clear hF rd;unfold aN
         go_simp
         simp only[aF];exact hR _ (ah _ _)
       simp only[Act.put,aa,aj,am]
      apply aR
      · intro x;go_simp;done
      · intro x W R hW hF hR;have rd:=hW.1.rd;unfold rdC at rd;have c2:=ac rd 2;have d0:=ac hW.2 0;have d1:=ac hW.2 1;clear hF rd;have hlk:=iP (P:=Tryz.prog) (k:=9) (e:=3) (t:=112) Tryz.underlying9 Tryz.underlying112 hW.1.mv HF.out (jP W);unfold aN
        go_simp
        simp only[aF];exact hR _ (ah _ _)
      simp only[Act.put,aa,aj,am]
      iterate 5
       apply aR
       · intro x;go_simp;done
       · intro x W R hW hF hR;clear hF hW;unfold aN
         go_simp
         simp only[aF];exact hR _ (ah _ _)
       simp only[Act.put,aa,aj,am]
      refine cz (by kernel_rfl) (by kernel_rfl) (by kernel_rfl) (fun _ _ h hb=>⟨h.1.far hb,(hb.block _ (ay h.2)).trans h.2⟩) (fun _ _ _ _=>trivial) (fun _ _=>trivial) (⟨HDa.out.far (ah _ _).drew,((ah _ _).drew.block _ (ay hbx)).trans hbx⟩) ?_;intro x W hE hW hF hD;clear hD;have hC6:=hid (hW rfl);clear hF hW
      go_upto_region 8 with fail
      refine aV [[],[0],[0,1],[0,1,2],[],[4],[],[6],[0,1,2,3,4,5,6,7]] (fun W=>DC 0 R V w (rdC ai ni ci ae ne ce V F ab nb cb cf p er) us W∧W.heap[D]? =some (.cells #[.string nm,.int .i64 so] 46 (0,0))) (fun _=>True) ?_
      iterate 8
       apply aR
       · intro x;go_simp;done
       · intro x W R hW hF hR;have rd:=hW.1.rd;unfold rdC at rd;have c2:=ac rd 2;have d0:=ac hW.2 0;have d1:=ac hW.2 1;clear hF rd;unfold aN
         go_simp
         simp only[aF];exact hR _ (ah _ _)
       simp only[Act.put,aa,aj,am]
      refine fG (fun _ W=>DC 0 R V w (rdC ai ni ci ae ne ce V F ab nb cb cf p er) (eY nm so us) W) (fun _ _ _ h hb=>h.far hb) (fun _ _ _ _ h=>h) ?_ ?_ ?_
      · intro x;go_simp;done
      · intro x W R' hW hF hD hR;obtain ⟨w2,hrun,hm2,hg2⟩:=kL (P:=Tryz.prog) (k:=9) (e:=3) (t:=112) Tryz.underlying9 Tryz.underlying112 hW.1.mv nm (.int .i64 so);clear hF hD;unfold aN
        go_simp
        simp only[aF];exact hR _ _ (hW.1.put HRV.out hm2 hg2) trivial hg2.size
      simp only[Act.put];refine cz (by kernel_rfl) (by kernel_rfl) (by kernel_rfl) (fun _ _ h hb=>⟨h.1.far hb,(hb.block _ (ay h.2)).trans h.2⟩) (fun _ _ _ _=>trivial) (fun _ _=>trivial) (⟨hC6.out.1.far (ah _ _).drew,((ah _ _).drew.block _ (ay hC6.out.2)).trans hC6.out.2⟩) ?_;intro x W hE hW hF hD;clear hD;have HDE:=hid (hF.1.2 rfl);clear hF hW hC6
      go_wp2_with fail
      go_roundw
      case rel=>exact ⟨k+1,_,by omega,by go_num,HS2.out,HDE.out⟩
      case measure=>simp[intOf];omega
    | some v0=>
      obtain ⟨jf,hjf⟩:=d8 0 hv;have HF:=hid hjf;have HS2:Hid (fU us (l.drop (k+1))=fU vs l):=hid (by rw[←HST.out];simp only[fU];rw[hv];rfl);clear HST hv hjf;refine aV [[],[0],[0,1],[0,1,2],[],[4],[0,1,2,3,4,5],[0,1,2,3,4,5,6],[0,1,2,3,4,5,6,7],[0,1,2,3,4,5,6,7],[0,1,2,3,4,5,6,7,8],[0,1,2,3,4,5,6,7,8,9,10]] (fun W=>DC 0 R V w (rdC ai ni ci ae ne ce V F ab nb cb cf p er) us W∧W.heap[D]? =some (.cells #[.string nm,.int .i64 so] 46 (0,0))) (fun _=>True) ?_
      iterate 6
       apply aR
       · intro x;go_simp;done
       · intro x W R hW hF hR;have rd:=hW.1.rd;unfold rdC at rd;have c2:=ac rd 2;have d0:=ac hW.2 0;have d1:=ac hW.2 1;clear hF rd;unfold aN
         go_simp
         simp only[aF];exact hR _ (ah _ _)
       simp only[Act.put,aa,aj,am]
      apply aR
      · intro x;go_simp;done
      · intro x W R hW hF hR;have rd:=hW.1.rd;unfold rdC at rd;have c2:=ac rd 2;have d0:=ac hW.2 0;have d1:=ac hW.2 1;clear hF rd;have hlk:=jN (P:=Tryz.prog) (k:=9) (e:=3) (t:=112) Tryz.underlying9 Tryz.underlying112 hW.1.mv HF.out;unfold aN
        go_simp
        simp only[aF];exact hR _ (ah _ _)
      simp only[Act.put,aa,aj,am]
      iterate 5
       apply aR
       · intro x;go_simp;done
       · intro x W R hW hF hR;clear hF hW;unfold aN
         go_simp
         simp only[aF];exact hR _ (ah _ _)
       simp only[Act.put,aa,aj,am]
      refine cz (by kernel_rfl) (by kernel_rfl) (by kernel_rfl) (fun _ _ h hb=>⟨h.1.far hb,(hb.block _ (ay h.2)).trans h.2⟩) (fun _ _ _ _=>trivial) (fun _ _=>trivial) (⟨HDa.out.far (ah _ _).drew,((ah _ _).drew.block _ (ay hbx)).trans hbx⟩) ?_;intro x W hE hW hF hD;clear hD;have hC6:=hid (hW rfl);clear hF hW
      go_wp2_with fail
      go_roundw
      case rel=>exact ⟨k+1,us,by omega,by go_num,HS2.out,hC6.out.1⟩
      case measure=>simp[intOf];omega
  · obtain rfl:k=n:=by omega
    have HS2:Hid (us=fU vs l):=hid (by rw[←HD.out,List.drop_of_length_le (by rw[HN.out];exact ag _)];rfl);clear HD
    go_wp2
    go_loopw [58] (fun v wr'=>v=.int .i64 0∧wr'=wr) (fun _ _=>0)
    case atStart=>exact ⟨rfl,rfl⟩
    case round=>
     obtain ⟨rfl,rfl⟩:=hrel
     go_wp2
     go_ret
     exact ⟨rfl,by rw[←HS2.out];exact HDC.out⟩
end
end Go.Proofs.YtapdbeaoakcjeaaGreatDoor.Se

import Derived.Test.YtpkfnnkbfphfbaaGreatDoorHWV
set_option maxRecDepth 100000
set_option maxHeartbeats 40000000
open Go.Lib (hid)
namespace Go.Proofs.YtpkfnnkbfphfbaaGreatDoor.Se
open Go.RowKit Nmx Go.Proofs.Tryz
theorem A6 (b:List Nd):dA [] b=cmpI 0 b.length:=by
 cases b with
 | nil=>rfl
 | cons y b=>show (-1:Int)=cmpI 0 ((b.length+1:Nat):Int);unfold cmpI;rw[aF (by omega)]
theorem zY (a:List Nd):dA a []=cmpI a.length 0:=by
 cases a with
 | nil=>rfl
 | cons y b=>show (1:Int)=cmpI ((b.length+1:Nat):Int) 0;unfold cmpI;rw[aB (by omega),aF (by omega)]
theorem m7 (ax bx:Option Addr) (c1 c2:Nat) (ta tb:List Nd) (w:World) (ha:NodesO w ax ta) (hb:NodesO w bx tb) (hla:ta.length≤1000000) (hlb:tb.length≤1000000):
    Calls prog 53 #[.slice ax ta.length c1,.slice bx tb.length c2] w fun e w'=>e=.returned (.int .i64 (dA ta tb))∧Below w.heap.size w w':=by
 have HA:=hid ha;have HB:=hid hb;obtain ⟨n1,hn1⟩:∃n,ta.length=n:=⟨_,rfl⟩
 obtain ⟨n2,hn2⟩:∃n,tb.length=n:=⟨_,rfl⟩
 have HN1:=hid hn1;have HN2:=hid hn2;rw[hn1] at hla ⊢;rw[hn2] at hlb ⊢;clear ha hb hn1 hn2;generalize hS:w.heap.size=S at *;have HS:=hid hS
 go_enter func53,ntmps53
 go_wp2
 go_loopw [5] (fun i wr=>∃k:Nat,k≤n1∧k≤n2∧i=.int .i64 k∧dA ta tb=dA (ta.drop k) (tb.drop k)∧Below S w wr) (fun i _=>n1-(intOf i).toNat)
 case atStart=>exact ⟨0,aM _,aM _,rfl,rfl,am _ _⟩
 case round=>
  obtain ⟨k,hk1,hk2,rfl,hts,hbel⟩:=hrel;have HT:=hid hts;have HBL:=hid hbel;have hsw:S≤wr.heap.size:=by have:=hbel.size;omega
  clear hts hbel
  by_cases h1:k<n1
  · have h1I:(k:Int)<(n1:Int):=by omega
    by_cases h2:k<n2
    · have h2I:(k:Int)<(n2:Int):=by omega
      have hk1l:k<ta.length:=by rw[HN1.out];exact h1
      have hk2l:k<tb.length:=by rw[HN2.out];exact h2
      obtain ⟨g1,off1,rfl,hl1,hc1⟩:=HA.out (by omega);obtain ⟨g2,off2,rfl,hl2,hc2⟩:=HB.out (by omega);have hx:=hc1 k ta[k] (ay hk1l);have hy:=hc2 k tb[k] (ay hk2l)
      have hst:dA (ta.drop k) (tb.drop k)=if df ta[k] tb[k]=0 then dA (ta.drop (k+1)) (tb.drop (k+1)) else df ta[k] tb[k]:=by
       rw[List.drop_eq_getElem_cons hk1l,List.drop_eq_getElem_cons hk2l];rfl
      generalize ta[k]=x1 at *;generalize tb[k]=x2 at *;obtain ⟨op1,sort1,name1,num1,kids1⟩:=x1;obtain ⟨op2,sort2,name2,num2,kids2⟩:=x2;have hl1':g1<S:=by have:=HS.out;omega
      have hl2':g2<S:=by have:=HS.out;omega
      have HC:Hid (CN S g1 (off1+k*5) g2 (off2+k*5) op1 sort1 kids1 op2 sort2 kids2 name1 num1 name2 num2 w wr):=hid
       ⟨(HBL.out.cell (p:=⟨g1,off1+k*5,none⟩) hl1').trans (hx 0 (by decide)),(HBL.out.cell (p:=⟨g1,off1+k*5+1,none⟩) hl1').trans (hx 1 (by decide)),(HBL.out.cell (p:=⟨g1,off1+k*5+2,none⟩) hl1').trans (hx 2 (by decide)),(HBL.out.cell (p:=⟨g1,off1+k*5+3,none⟩) hl1').trans (hx 3 (by decide)),(HBL.out.cell (p:=⟨g1,off1+k*5+4,none⟩) hl1').trans (hx 4 (by decide)),
        (HBL.out.cell (p:=⟨g2,off2+k*5,none⟩) hl2').trans (hy 0 (by decide)),(HBL.out.cell (p:=⟨g2,off2+k*5+1,none⟩) hl2').trans (hy 1 (by decide)),(HBL.out.cell (p:=⟨g2,off2+k*5+2,none⟩) hl2').trans (hy 2 (by decide)),(HBL.out.cell (p:=⟨g2,off2+k*5+3,none⟩) hl2').trans (hy 3 (by decide)),(HBL.out.cell (p:=⟨g2,off2+k*5+4,none⟩) hl2').trans (hy 4 (by decide)),hl1',hl2',hsw,HBL.out⟩
      have HST:=hid hst;clear hx hy hst hc1 hc2 hl1 hl2 HBL hS
      go_upto_region 4 with fail
      refine cF [[],[],[0,1],[0,1,2],[],[],[4,5],[4,5,6],[],[],[0,1,2,3,8,9],[0,1,2,3,4,5,6,7,8,9,10]] (fun W=>CN S g1 (off1+k*5) g2 (off2+k*5) op1 sort1 kids1 op2 sort2 kids2 name1 num1 name2 num2 w W) (fun W=>CN S g1 (off1+k*5) g2 (off2+k*5) op1 sort1 kids1 op2 sort2 kids2 name1 num1 name2 num2 w W) ?_
      iterate 4
       apply bz
       · intro x;go_simp;done
       · intro x W R hW hF hR;obtain ⟨a0,a1,a2,a3,a4,b0,b1,b2,b3,b4,-,-,-,-⟩:=hW;clear hF;unfold aR
         go_simp
         simp only[aJ];exact hR _ (am _ _)
       simp only[Act.put,ac,ag,ah]
      iterate 4
       apply sM
       · intro x;go_simp;done
       · intro x W R hW hF hR;obtain ⟨a0,a1,a2,a3,a4,b0,b1,b2,b3,b4,-,-,-,-⟩:=hW;clear hF;unfold aR
         go_simp
         simp only[aJ];exact hR _ (am _ _)
       simp only[Act.put,ac,ag,ah]
      refine xg (fun B W=>W.heap[B]? =some (.cells #[.int .i64 0,.int .i64 0,.string ⟨#[]⟩,.string ⟨#[]⟩,.int .i64 0] 57 (0,0))∧S≤B) (fun _ _ _ h hb=>⟨(hb.block _ (ar h.1)).trans h.1,h.2⟩) ?_ ?_ ?_
      · intro x;go_simp;done
      · intro x W R hW hF hR;clear hF;unfold aR
        go_simp
        simp only[aJ];exact hR _ ⟨aq W _,hW.ls⟩ (aO W _) (by simp)
      simp only[Act.put,ac,ag,ah,aw,aN,Nat.zero_add,Nat.reduceAdd];refine xg (fun B W=>W.heap[B]? =some (.cells #[.int .i64 0,.int .i64 0,.string ⟨#[]⟩,.string ⟨#[]⟩,.int .i64 0] 57 (0,0))∧S≤B) (fun _ _ _ h hb=>⟨(hb.block _ (ar h.1)).trans h.1,h.2⟩) ?_ ?_ ?_
      · intro x;go_simp;done
      · intro x W R hW hF hR;clear hF;unfold aR
        go_simp
        simp only[aJ];exact hR _ ⟨aq W _,hW.ls⟩ (aO W _) (by simp)
      simp only[Act.put,ac,ag,ah,aw,aN,Nat.zero_add,Nat.reduceAdd];refine nY (fun x W=>∃B6 B7,x 8=.pointer (some ⟨B6,0,none⟩)∧x 9=.pointer (some ⟨B7,0,none⟩)∧B6≠B7∧S≤B6∧S≤B7∧W.heap[B6]? =some (.cells #[.int .i64 op1,.int .i64 sort1,.string name1,.string num1,.int .i64 kids1] 57 (0,0))∧W.heap[B7]? =some (.cells #[.int .i64 0,.int .i64 0,.string ⟨#[]⟩,.string ⟨#[]⟩,.int .i64 0] 57 (0,0))∧CN S g1 (off1+k*5) g2 (off2+k*5) op1 sort1 kids1 op2 sort2 kids2 name1 num1 name2 num2 w W) (fun _ _ _ h hb=>let ⟨B6,B7,h1,h2,h3,h4,h5,h6,h7,h8⟩:=h;⟨B6,B7,h1,h2,h3,h4,h5,(hb.block _ (ar h6)).trans h6,(hb.block _ (ar h7)).trans h7,h8.keep (hb.mono h8.ls)⟩) (fun x x' w h hT=>by have e8:=h 8 (.inr (List.contains_iff_mem.1 rfl));have e9:=h 9 (.inr (List.contains_iff_mem.1 rfl));rw[e8,e9] at hT;exact hT) ?_ ?_ ?_
      · intro x;go_simp;done
      · intro x W R hW hF hD hR;obtain ⟨B7,hx9,h7,s7⟩:=hF.1.2 rfl rfl rfl;obtain ⟨B6,hx8,h6,s6⟩:=hF.2.1.2 rfl rfl rfl;have hx9':x 9=.pointer (some ⟨B7,0,none⟩):=hx9;have hx8':x 8=.pointer (some ⟨B6,0,none⟩):=hx8;have hne:B6≠B7:=fun e=>hD 8 9 (List.contains_iff_mem.1 rfl) (List.contains_iff_mem.1 rfl) (by decide) rfl rfl (by rw[hx8',hx9',e])
        clear hF hD hx8 hx9;simp only[hx8'];have f0:=aa h6 0;have fz0:=aK h6 0;have f1:=aa h6 1;have fz1:=aK h6 1;have f2:=aa h6 2;have fz2:=aK h6 2;have f3:=aa h6 3;have fz3:=aK h6 3;have f4:=aa h6 4;have fz4:=aK h6 4;have hW2:=hW.keep (jH (am S W) s6 (.int .i64 op1) (.int .i64 sort1) (.string name1) (.string num1) (.int .i64 kids1));have h62:=li h6 (.int .i64 op1) (.int .i64 sort1) (.string name1) (.string num1) (.int .i64 kids1);have h72:=m6 h7 (Ne.symm hne) (.int .i64 op1) (.int .i64 sort1) (.string name1) (.string num1) (.int .i64 kids1);unfold aR
        go_simp
        simp only[aJ];refine hR _ _ ?_ hW2 (by simp[World.setCell]);refine ⟨B6,B7,?_,?_,hne,s6,s7,h62,h72,hW2⟩
        · show dK x 10 _ 8=_;rw[dS (i:=10) (j:=8) _ _ (by decide),hx8']
        · show dK x 10 _ 9=_;rw[dS (i:=10) (j:=9) _ _ (by decide),hx9']
      simp only[Act.put];refine AJ (fun x W=>∃B6 B7,x 8=.pointer (some ⟨B6,0,none⟩)∧x 9=.pointer (some ⟨B7,0,none⟩)∧B6≠B7∧S≤B6∧S≤B7∧W.heap[B6]? =some (.cells #[.int .i64 op1,.int .i64 sort1,.string name1,.string num1,.int .i64 kids1] 57 (0,0))∧W.heap[B7]? =some (.cells #[.int .i64 op2,.int .i64 sort2,.string name2,.string num2,.int .i64 kids2] 57 (0,0))∧CN S g1 (off1+k*5) g2 (off2+k*5) op1 sort1 kids1 op2 sort2 kids2 name1 num1 name2 num2 w W) (fun _ _ _ h hb=>let ⟨B6,B7,h1,h2,h3,h4,h5,h6,h7,h8⟩:=h;⟨B6,B7,h1,h2,h3,h4,h5,(hb.block _ (ar h6)).trans h6,(hb.block _ (ar h7)).trans h7,h8.keep (hb.mono h8.ls)⟩) (fun x x' w h hT=>by have e8:=h 8 (.inr (List.contains_iff_mem.1 rfl));have e9:=h 9 (.inr (List.contains_iff_mem.1 rfl));rw[e8,e9] at hT;exact hT) ?_ ?_ ?_
      · intro x;go_simp;done
      · intro x W R hW hF hD hR;obtain ⟨B6,B7,hx8',hx9',hne,s6,s7,h6,h7,hcn⟩:=hF.1.2 rfl rfl rfl;clear hF hD;simp only[hx9'];have f0:=aa h7 0;have fz0:=aK h7 0;have f1:=aa h7 1;have fz1:=aK h7 1;have f2:=aa h7 2;have fz2:=aK h7 2;have f3:=aa h7 3;have fz3:=aK h7 3;have f4:=aa h7 4;have fz4:=aK h7 4;have hW2:=hcn.keep (jH (am S W) s7 (.int .i64 op2) (.int .i64 sort2) (.string name2) (.string num2) (.int .i64 kids2));have h72:=li h7 (.int .i64 op2) (.int .i64 sort2) (.string name2) (.string num2) (.int .i64 kids2);have h62:=m6 h6 hne (.int .i64 op2) (.int .i64 sort2) (.string name2) (.string num2) (.int .i64 kids2);unfold aR
        go_simp
        simp only[aJ];refine hR _ _ ?_ hW2 (by simp[World.setCell]);refine ⟨B6,B7,?_,?_,hne,s6,s7,h62,h72,hW2⟩
        · show dK x 11 _ 8=_;rw[dS (i:=11) (j:=8) _ _ (by decide),hx8']
        · show dK x 11 _ 9=_;rw[dS (i:=11) (j:=9) _ _ (by decide),hx9']
      simp only[Act.put];refine ie (by kernel_rfl) (by kernel_rfl) (by kernel_rfl) (fun _ _ h hb=>h.keep (hb.mono h.ls)) (fun _ _ h hb=>h.keep (hb.mono h.ls)) (fun _ h=>h) (HC.out.keep (am S wr).drew) ?_;intro x W hE hW hF hD;clear hD;obtain ⟨B6,B7,hx8,hx9,hne,s6,s7,h6,h7,hcn⟩:=hF.1.2 rfl;have H6:=hid h6;have H7:=hid h7;have hls:=hcn.ls;have HB4:=hid hcn.bel;clear hF hW hne h6 h7 hcn;simp only[hx8,hx9];clear hx8 hx9;have HK0:=fun W:World=>iV op1 op2 W
      have HK1:=fun W:World=>iV sort1 sort2 W
      have HK2:=fun W:World=>lC name1 name2 W
      have HK3:=fun W:World=>lC num1 num2 W
      have HK4:=fun W:World=>iV kids1 kids2 W
      have hnd:df ⟨op1,sort1,name1,num1,kids1⟩ ⟨op2,sort2,name2,num2,kids2⟩=bR [cmpI op1 op2,cmpI sort1 sort2,hZ name1 name2,hZ num1 num2,cmpI kids1 kids2]:=rfl;generalize cmpI op1 op2=k0 at *;generalize cmpI sort1 sort2=k1 at *;generalize hZ name1 name2=k2 at *;generalize hZ num1 num2=k3 at *;generalize cmpI kids1 kids2=k4 at *;have HND:=hid hnd;clear hnd;generalize W=w4 at *
      go_upto_region 5 with fail
      refine cF [[],[0],[],[2],[0,1,2,3],[],[5],[],[7],[0,1,2,3,4,5,6,7,8],[],[10],[],[12],[0,1,2,3,4,5,6,7,8,9,10,11,12,13],[],[15],[],[17],[0,1,2,3,4,5,6,7,8,9,10,11,12,13,14,15,16,17,18],[],[20],[],[22],[0,1,2,3,4,5,6,7,8,9,10,11,12,13,14,15,16,17,18,19,20,21,22,23],[0,1,2,3,4,5,6,7,8,9,10,11,12,13,14,15,16,17,18,19,20,21,22,23,24],[],[0,1,2,3,4,5,6,7,8,9,10,11,12,13,14,15,16,17,18,19,20,21,22,23,24,25,26]] (fun W=>W.heap[B6]? =some (.cells #[.int .i64 op1,.int .i64 sort1,.string name1,.string num1,.int .i64 kids1] 57 (0,0))∧W.heap[B7]? =some (.cells #[.int .i64 op2,.int .i64 sort2,.string name2,.string num2,.int .i64 kids2] 57 (0,0))∧S≤W.heap.size∧Below S w W) (fun _=>True) ?_
      iterate 4
       apply bz
       · intro x;go_simp;done
       · intro x W R hW hF hR;have p0:=aa hW.1 0;have q0:=aa hW.2.1 0;have p1:=aa hW.1 1;have q1:=aa hW.2.1 1;have p2:=aa hW.1 2;have q2:=aa hW.2.1 2;have p3:=aa hW.1 3;have q3:=aa hW.2.1 3;have p4:=aa hW.1 4;have q4:=aa hW.2.1 4;clear hF;unfold aR
         go_simp
         simp only[aJ];exact hR _ (am _ _)
       simp only[Act.put,ac,ag,ah]
      apply bz
      · intro x;go_simp;done
      · intro x W R hW hF hR;have p0:=aa hW.1 0;have q0:=aa hW.2.1 0;have p1:=aa hW.1 1;have q1:=aa hW.2.1 1;have p2:=aa hW.1 2;have q2:=aa hW.2.1 2;have p3:=aa hW.1 3;have q3:=aa hW.2.1 3;have p4:=aa hW.1 4;have q4:=aa hW.2.1 4;clear hF;unfold aR
        go_simp
        simp only[aJ];refine (HK0 W).mono ?_;rintro e w4 ⟨rfl,rfl⟩;exact ⟨_,rfl,hR _ (am _ _)⟩
      simp only[Act.put,ac,ag,ah]
      iterate 4
       apply bz
       · intro x;go_simp;done
       · intro x W R hW hF hR;have p0:=aa hW.1 0;have q0:=aa hW.2.1 0;have p1:=aa hW.1 1;have q1:=aa hW.2.1 1;have p2:=aa hW.1 2;have q2:=aa hW.2.1 2;have p3:=aa hW.1 3;have q3:=aa hW.2.1 3;have p4:=aa hW.1 4;have q4:=aa hW.2.1 4;clear hF;unfold aR
         go_simp
         simp only[aJ];exact hR _ (am _ _)
       simp only[Act.put,ac,ag,ah]
      apply bz
      · intro x;go_simp;done
      · intro x W R hW hF hR;have p0:=aa hW.1 0;have q0:=aa hW.2.1 0;have p1:=aa hW.1 1;have q1:=aa hW.2.1 1;have p2:=aa hW.1 2;have q2:=aa hW.2.1 2;have p3:=aa hW.1 3;have q3:=aa hW.2.1 3;have p4:=aa hW.1 4;have q4:=aa hW.2.1 4;clear hF;unfold aR
        go_simp
        simp only[aJ];refine (HK1 W).mono ?_;rintro e w4 ⟨rfl,rfl⟩;exact ⟨_,rfl,hR _ (am _ _)⟩
      simp only[Act.put,ac,ag,ah]
      iterate 4
       apply bz
       · intro x;go_simp;done
       · intro x W R hW hF hR;have p0:=aa hW.1 0;have q0:=aa hW.2.1 0;have p1:=aa hW.1 1;have q1:=aa hW.2.1 1;have p2:=aa hW.1 2;have q2:=aa hW.2.1 2;have p3:=aa hW.1 3;have q3:=aa hW.2.1 3;have p4:=aa hW.1 4;have q4:=aa hW.2.1 4;clear hF;unfold aR
         go_simp
         simp only[aJ];exact hR _ (am _ _)
       simp only[Act.put,ac,ag,ah]
      apply bz
      · intro x;go_simp;done
      · intro x W R hW hF hR;have p0:=aa hW.1 0;have q0:=aa hW.2.1 0;have p1:=aa hW.1 1;have q1:=aa hW.2.1 1;have p2:=aa hW.1 2;have q2:=aa hW.2.1 2;have p3:=aa hW.1 3;have q3:=aa hW.2.1 3;have p4:=aa hW.1 4;have q4:=aa hW.2.1 4;clear hF;unfold aR
        go_simp
        simp only[aJ];refine (HK2 W).mono ?_;rintro e w4 ⟨rfl,rfl⟩;exact ⟨_,rfl,hR _ (am _ _)⟩
      simp only[Act.put,ac,ag,ah]
      iterate 4
       apply bz
       · intro x;go_simp;done
       · intro x W R hW hF hR;have p0:=aa hW.1 0;have q0:=aa hW.2.1 0;have p1:=aa hW.1 1;have q1:=aa hW.2.1 1;have p2:=aa hW.1 2;have q2:=aa hW.2.1 2;have p3:=aa hW.1 3;have q3:=aa hW.2.1 3;have p4:=aa hW.1 4;have q4:=aa hW.2.1 4;clear hF;unfold aR
         go_simp
         simp only[aJ];exact hR _ (am _ _)
       simp only[Act.put,ac,ag,ah]
      apply bz
      · intro x;go_simp;done
      · intro x W R hW hF hR;have p0:=aa hW.1 0;have q0:=aa hW.2.1 0;have p1:=aa hW.1 1;have q1:=aa hW.2.1 1;have p2:=aa hW.1 2;have q2:=aa hW.2.1 2;have p3:=aa hW.1 3;have q3:=aa hW.2.1 3;have p4:=aa hW.1 4;have q4:=aa hW.2.1 4;clear hF;unfold aR
        go_simp
        simp only[aJ];refine (HK3 W).mono ?_;rintro e w4 ⟨rfl,rfl⟩;exact ⟨_,rfl,hR _ (am _ _)⟩
      simp only[Act.put,ac,ag,ah]
      iterate 4
       apply bz
       · intro x;go_simp;done
       · intro x W R hW hF hR;have p0:=aa hW.1 0;have q0:=aa hW.2.1 0;have p1:=aa hW.1 1;have q1:=aa hW.2.1 1;have p2:=aa hW.1 2;have q2:=aa hW.2.1 2;have p3:=aa hW.1 3;have q3:=aa hW.2.1 3;have p4:=aa hW.1 4;have q4:=aa hW.2.1 4;clear hF;unfold aR
         go_simp
         simp only[aJ];exact hR _ (am _ _)
       simp only[Act.put,ac,ag,ah]
      apply bz
      · intro x;go_simp;done
      · intro x W R hW hF hR;have p0:=aa hW.1 0;have q0:=aa hW.2.1 0;have p1:=aa hW.1 1;have q1:=aa hW.2.1 1;have p2:=aa hW.1 2;have q2:=aa hW.2.1 2;have p3:=aa hW.1 3;have q3:=aa hW.2.1 3;have p4:=aa hW.1 4;have q4:=aa hW.2.1 4;clear hF;unfold aR
        go_simp
        simp only[aJ];refine (HK4 W).mono ?_;rintro e w4 ⟨rfl,rfl⟩;exact ⟨_,rfl,hR _ (am _ _)⟩
      simp only[Act.put,ac,ag,ah];apply bz
      · intro x;go_simp;done
      · intro x W R hW hF hR;have p0:=aa hW.1 0;have q0:=aa hW.2.1 0;have p1:=aa hW.1 1;have q1:=aa hW.2.1 1;have p2:=aa hW.1 2;have q2:=aa hW.2.1 2;have p3:=aa hW.1 3;have q3:=aa hW.2.1 3;have p4:=aa hW.1 4;have q4:=aa hW.2.1 4;clear hF;unfold aR
        go_simp
        simp only[aJ];exact hR _ (am _ _)
      simp only[Act.put,ac,ag,ah];refine xg (fun B W=>W.heap[B]? =some (.cells #[.int .i64 0,.int .i64 0,.int .i64 0,.int .i64 0,.int .i64 0] 117 (0,0))∧S≤B) (fun _ _ _ h hb=>⟨(hb.block _ (ar h.1)).trans h.1,h.2⟩) ?_ ?_ ?_
      · intro x;go_simp;done
      · intro x W R hW hF hR;clear hF;unfold aR
        go_simp
        simp only[aJ];exact hR _ ⟨aq W _,hW.2.2.1⟩ (aO W _) (by simp)
      simp only[Act.put,ac,ag,ah,aw,aN,Nat.zero_add,Nat.reduceAdd];refine nY (fun x W=>∃B8,x 26=.pointer (some ⟨B8,0,none⟩)∧W.heap[B8]? =some (.cells #[.int .i64 k0,.int .i64 k1,.int .i64 k2,.int .i64 k3,.int .i64 k4] 117 (0,0))∧Below S w W∧S≤W.heap.size) (fun _ _ _ h hb=>let ⟨B8,h1,h2,h3,h4⟩:=h;⟨B8,h1,(hb.block _ (ar h2)).trans h2,h3.trans (hb.mono h4),aP h4 hb.size⟩) (fun x x' w h hT=>by have e8:=h 26 (.inr (List.contains_iff_mem.1 rfl));rw[e8] at hT;exact hT) ?_ ?_ ?_
      · intro x;go_simp;done
      · intro x W R hW hF hD hR;obtain ⟨B8,hx26,h8,s8⟩:=hF.1.2 rfl rfl rfl;have hx26':x 26=.pointer (some ⟨B8,0,none⟩):=hx26;clear hF hD hx26;simp only[hx26'];have f0:=aa h8 0;have fz0:=aK h8 0;have f1:=aa h8 1;have fz1:=aK h8 1;have f2:=aa h8 2;have fz2:=aK h8 2;have f3:=aa h8 3;have fz3:=aK h8 3;have f4:=aa h8 4;have fz4:=aK h8 4;have hW2:=jH hW.2.2.2 s8 (.int .i64 k0) (.int .i64 k1) (.int .i64 k2) (.int .i64 k3) (.int .i64 k4);have h82:=li h8 (.int .i64 k0) (.int .i64 k1) (.int .i64 k2) (.int .i64 k3) (.int .i64 k4);have hs2:=hW.2.2.1;unfold aR
        go_simp
        simp only[aJ];refine hR _ _ ?_ trivial (by simp[World.setCell]);refine ⟨B8,?_,h82,hW2,by simpa [World.setCell] using hs2⟩;show dK x 27 _ 26=_;rw[dS (i:=27) (j:=26) _ _ (by decide),hx26']
      simp only[Act.put];refine ie (by kernel_rfl) (by kernel_rfl) (by kernel_rfl) (fun _ _ h hb=>⟨(hb.block _ (ar h.1)).trans h.1,(hb.block _ (ar h.2.1)).trans h.2.1,aP h.2.2.1 hb.size,h.2.2.2.trans (hb.mono h.2.2.1)⟩) (fun _ _ _ _=>trivial) (fun _ _=>trivial) (⟨H6.out,H7.out,hls,HB4.out.trans ((am _ _).drew)⟩) ?_;intro x W hE hW hF hD;clear hD;obtain ⟨B8,hx26,h8,hb8,hs8⟩:=hF.1.2 rfl;have z0:=aa h8 0;have z1:=aa h8 1;have z2:=aa h8 2;have z3:=aa h8 3;have z4:=aa h8 4;have HB8:=hid hb8;clear hF hW h8 hb8 HK0 HK1 HK2 HK3 HK4;simp only[hx26];clear hx26
      go_wp2
      go_loop [9] (fun i=>∃q:Nat,q≤5∧i=.int .i64 q∧bR [k0,k1,k2,k3,k4]=bR ([k0,k1,k2,k3,k4].drop q)) (fun i=>5-(intOf i).toNat)
      case atStart=>exact ⟨0,aM _,rfl,rfl⟩
      case round=>
       obtain ⟨q,hq,rfl,hfn⟩:=hrel;have HFN:=hid hfn;clear hfn;have hq6:q=0∨q=1∨q=2∨q=3∨q=4∨q=5:=by omega
       rcases hq6 with rfl | rfl | rfl | rfl | rfl | rfl
       · by_cases hz:k0=0
         · have HF2:Hid (bR [k0,k1,k2,k3,k4]=bR ([k0,k1,k2,k3,k4].drop 1)):=hid (by
             rw[HFN.out];show (if k0=0 then bR [k1,k2,k3,k4] else k0)=bR [k1,k2,k3,k4];rw[aF hz])
           clear HFN
           go_wp2
           go_round
           case rel=>exact ⟨1,by omega,rfl,HF2.out⟩
           case measure=>simp[intOf]
         · have HR:Hid (dA ta tb=k0):=hid (by
             have hf:df ⟨op1,sort1,name1,num1,kids1⟩ ⟨op2,sort2,name2,num2,kids2⟩=k0:=by
              rw[HND.out,HFN.out];show (if k0=0 then bR [k1,k2,k3,k4] else k0)=k0;rw[aB hz]
             rw[HT.out,HST.out,hf,aB hz])
           have hzf:(k0==0)=false:=by simp[hz]
           clear HFN HND HST HT
           go_wp2
           go_ret
           exact ⟨by rw[HR.out];rfl,HB8.out⟩
       · by_cases hz:k1=0
         · have HF2:Hid (bR [k0,k1,k2,k3,k4]=bR ([k0,k1,k2,k3,k4].drop 2)):=hid (by
             rw[HFN.out];show (if k1=0 then bR [k2,k3,k4] else k1)=bR [k2,k3,k4];rw[aF hz])
           clear HFN
           go_wp2
           go_round
           case rel=>exact ⟨2,by omega,rfl,HF2.out⟩
           case measure=>simp[intOf]
         · have HR:Hid (dA ta tb=k1):=hid (by
             have hf:df ⟨op1,sort1,name1,num1,kids1⟩ ⟨op2,sort2,name2,num2,kids2⟩=k1:=by
              rw[HND.out,HFN.out];show (if k1=0 then bR [k2,k3,k4] else k1)=k1;rw[aB hz]
             rw[HT.out,HST.out,hf,aB hz])
           have hzf:(k1==0)=false:=by simp[hz]
           clear HFN HND HST HT
           go_wp2
           go_ret
           exact ⟨by rw[HR.out];rfl,HB8.out⟩
       · by_cases hz:k2=0
         · have HF2:Hid (bR [k0,k1,k2,k3,k4]=bR ([k0,k1,k2,k3,k4].drop 3)):=hid (by
             rw[HFN.out];show (if k2=0 then bR [k3,k4] else k2)=bR [k3,k4];rw[aF hz])
           clear HFN
           go_wp2
           go_round
           case rel=>exact ⟨3,by omega,rfl,HF2.out⟩
           case measure=>simp[intOf]
         · have HR:Hid (dA ta tb=k2):=hid (by
             have hf:df ⟨op1,sort1,name1,num1,kids1⟩ ⟨op2,sort2,name2,num2,kids2⟩=k2:=by
              rw[HND.out,HFN.out];show (if k2=0 then bR [k3,k4] else k2)=k2;rw[aB hz]
             rw[HT.out,HST.out,hf,aB hz])
           have hzf:(k2==0)=false:=by simp[hz]
           clear HFN HND HST HT
           go_wp2
           go_ret
           exact ⟨by rw[HR.out];rfl,HB8.out⟩
       · by_cases hz:k3=0
         · have HF2:Hid (bR [k0,k1,k2,k3,k4]=bR ([k0,k1,k2,k3,k4].drop 4)):=hid (by
             rw[HFN.out];show (if k3=0 then bR [k4] else k3)=bR [k4];rw[aF hz])
           clear HFN
           go_wp2
           go_round
           case rel=>exact ⟨4,by omega,rfl,HF2.out⟩
           case measure=>simp[intOf]
         · have HR:Hid (dA ta tb=k3):=hid (by
             have hf:df ⟨op1,sort1,name1,num1,kids1⟩ ⟨op2,sort2,name2,num2,kids2⟩=k3:=by
              rw[HND.out,HFN.out];show (if k3=0 then bR [k4] else k3)=k3;rw[aB hz]
             rw[HT.out,HST.out,hf,aB hz])
           have hzf:(k3==0)=false:=by simp[hz]
           clear HFN HND HST HT
           go_wp2
           go_ret
           exact ⟨by rw[HR.out];rfl,HB8.out⟩
       · by_cases hz:k4=0
         · have HF2:Hid (bR [k0,k1,k2,k3,k4]=bR ([k0,k1,k2,k3,k4].drop 5)):=hid (by
             rw[HFN.out];show (if k4=0 then bR [] else k4)=bR [];rw[aF hz])
           clear HFN
           go_wp2
           go_round
           case rel=>exact ⟨5,by omega,rfl,HF2.out⟩
           case measure=>simp[intOf]
         · have HR:Hid (dA ta tb=k4):=hid (by
             have hf:df ⟨op1,sort1,name1,num1,kids1⟩ ⟨op2,sort2,name2,num2,kids2⟩=k4:=by
              rw[HND.out,HFN.out];show (if k4=0 then bR [] else k4)=k4;rw[aB hz]
             rw[HT.out,HST.out,hf,aB hz])
           have hzf:(k4==0)=false:=by simp[hz]
           clear HFN HND HST HT
           go_wp2
           go_ret
           exact ⟨by rw[HR.out];rfl,HB8.out⟩
       · have HZ:Hid (dA ta tb=dA (ta.drop (k+1)) (tb.drop (k+1))):=hid (by
           rw[HT.out,HST.out,aF]
           rw[HND.out,HFN.out];rfl)
         clear HFN HND HST
         go_wp2
         go_roundw
         case rel=>exact ⟨k+1,by omega,by omega,by go_num,HZ.out,HB8.out⟩
         case measure=>simp[intOf];omega
    · have hke:k=n2:=by omega
      subst hke;have hdr:tb.drop k=[]:=List.drop_of_length_le (by rw[HN2.out];exact aj _)
      have HR:Hid (dA ta tb=cmpI n1 k):=hid (by
       rw[HT.out,hdr,zY,List.length_drop,HN1.out];unfold cmpI;rw[aB (by omega),aF (by omega),aB (by omega),aF (by omega)])
      clear hdr HT hS
      go_wp2_with fail
      refine (iV _ _ _).mono ?_;rintro e w9 ⟨rfl,rfl⟩
      go_wp2
      go_ret
      exact ⟨by rw[HR.out];rfl,HBL.out⟩
  · have hke:k=n1:=by omega
    subst hke;have hdr:ta.drop k=[]:=List.drop_of_length_le (by rw[HN1.out];exact aj _)
    have HR:Hid (dA ta tb=cmpI k n2):=hid (by
     rw[HT.out,hdr,A6,List.length_drop,HN2.out];unfold cmpI
     by_cases hlt:k<n2
     · rw[aF (by omega),aF (by omega)]
     · rw[aB (by omega),aB (by omega),aB (by omega),aB (by omega)])
    clear hdr HT hS
    go_wp2_with fail
    refine (iV _ _ _).mono ?_;rintro e w9 ⟨rfl,rfl⟩
    go_wp2
    go_ret
    exact ⟨by rw[HR.out];rfl,HBL.out⟩
theorem uc:∀(a b:List UInt8),Lib.compareBytes a b=if Op.bytesLess a b then -1 else if a==b then 0 else 1:=by
 intro a
 induction a with
 | nil=>intro b;cases b <;> rfl
 | cons x a ih=>
   intro b;cases b with
   | nil=>rfl
   | cons y b=>
     show (if x<y then (-1:Int) else if y<x then 1 else Lib.compareBytes a b)=_;have hl:Op.bytesLess (x::a) (y::b)=(decide (x<y) || (x==y && Op.bytesLess a b)):=rfl;rw[hl]
     by_cases h1:x<y
     · rw[aF h1];simp[h1]
     · by_cases h2:y<x
       · have hne:¬x=y:=fun e=>by subst e;exact h1 h2
         rw[aB h1,aF h2];simp[h1,hne]
       · have he:x=y:=by
           have h3:=UInt8.not_lt.1 h1;have h4:=UInt8.not_lt.1 h2;exact UInt8.le_antisymm h4 h3
         subst he;rw[aB h1,aB h2,ih b]
         simp[h1]
theorem pW (ax bx:Option Addr) (c1 c2:Nat) (ta tb:List Nd) (w:World) (ha:NodesO w ax ta) (hb:NodesO w bx tb) (hla:ta.length≤1000000) (hlb:tb.length≤1000000):
    Calls prog 27 #[.slice ax ta.length c1,.slice bx tb.length c2] w fun e w'=>e=.returned (.bool (dA ta tb==0))∧Below w.heap.size w w':=by
 have h:=m7 ax bx c1 c2 ta tb w ha hb hla hlb;clear ha hb;generalize ta.length=n1 at *;generalize tb.length=n2 at *
 go_enter func27,ntmps27
 go_wp2_with fail
 refine h.mono ?_;rintro e w9 ⟨rfl,hb9⟩;have HB:=hid hb9;clear h hb9
 go_wp2
 go_ret
 exact ⟨rfl,HB.out⟩
structure OrdC {α:Type} (f:α→α→Int):Prop where
 zero:∀a b,f a b=0→a=b
 refl:∀a,f a a=0
 anti:∀a b,f a b= -f b a
 tr:∀a b c,f a b≤0→f b c≤0→f a c≤0
theorem A7:OrdC cmpI:=by
 refine ⟨fun a b h=>?_,fun a=>?_,fun a b=>?_,fun a b c h1 h2=>?_⟩
 · unfold cmpI at h;split at h;cases h;split at h;cases h;omega
 · unfold cmpI;rw[aB (by omega),aB (by omega)]
 · unfold cmpI;repeat' split
   all_goals omega
 · unfold cmpI at *;repeat' split
   all_goals (repeat' split at h1)
   all_goals (repeat' split at h2)
   all_goals omega
theorem zZ:∀a b:List UInt8,Lib.compareBytes a b=0→a=b:=by
 intro a
 induction a with
 | nil=>intro b h;cases b;rfl;cases h
 | cons x a ih=>
   intro b h;cases b with
   | nil=>cases h
   | cons y b=>
     have h':(if x<y then (-1:Int) else if y<x then 1 else Lib.compareBytes a b)=0:=h
     split at h';cases h';split at h';cases h'
     rename_i h1 h2
     rw[UInt8.le_antisymm (UInt8.not_lt.1 h2) (UInt8.not_lt.1 h1),ih b h']
theorem z6:∀a:List UInt8,Lib.compareBytes a a=0:=by
 intro a
 induction a with
 | nil=>rfl
 | cons x a ih=>
   show (if x<x then (-1:Int) else if x<x then 1 else Lib.compareBytes a a)=0;rw[aB (UInt8.lt_irrefl x),aB (UInt8.lt_irrefl x),ih]
theorem z7:∀a b:List UInt8,Lib.compareBytes a b= -Lib.compareBytes b a:=by
 intro a
 induction a with
 | nil=>intro b;cases b <;> rfl
 | cons x a ih=>
   intro b;cases b with
   | nil=>rfl
   | cons y b=>
     show (if x<y then (-1:Int) else if y<x then 1 else Lib.compareBytes a b)= -(if y<x then (-1:Int) else if x<y then 1 else Lib.compareBytes b a)
     by_cases h1:x<y
     · rw[aF h1,aB (UInt8.lt_asymm h1),aF h1]
     · by_cases h2:y<x
       · rw[aB h1,aF h2,aF h2];rfl
       · rw[aB h1,aB h2,aB h2,aB h1,ih b]
theorem BI:∀a b c:List UInt8,Lib.compareBytes a b≤0→Lib.compareBytes b c≤0→Lib.compareBytes a c≤0:=by
 intro a
 induction a with
 | nil=>intro b c _ _;cases c;exact Int.le_refl 0;show (-1:Int)≤0;decide
 | cons x a ih=>
   intro b c h1 h2;cases b with
   | nil=>exact absurd h1 (by show ¬(1:Int)≤0;decide)
   | cons y b=>
     cases c with
     | nil=>exact absurd h2 (by show ¬(1:Int)≤0;decide)
     | cons z c=>
       have h1':(if x<y then (-1:Int) else if y<x then 1 else Lib.compareBytes a b)≤0:=h1;have h2':(if y<z then (-1:Int) else if z<y then 1 else Lib.compareBytes b c)≤0:=h2;show (if x<z then (-1:Int) else if z<x then 1 else Lib.compareBytes a c)≤0
       by_cases xy:x<y
       · by_cases yz:y<z
         · rw[aF (UInt8.lt_trans xy yz)];decide
         · rw[aB yz] at h2'
           by_cases zy:z<y
           · rw[aF zy] at h2';exact absurd h2' (by decide)
           · rw[UInt8.le_antisymm (UInt8.not_lt.1 zy) (UInt8.not_lt.1 yz)] at xy;rw[aF xy];decide
       · rw[aB xy] at h1'
         by_cases yx:y<x
         · rw[aF yx] at h1';exact absurd h1' (by decide)
         · rw[aB yx] at h1';have e:=UInt8.le_antisymm (UInt8.not_lt.1 yx) (UInt8.not_lt.1 xy);subst e
           by_cases yz:x<z
           · rw[aF yz];decide
           · rw[aB yz] at h2' ⊢
             by_cases zy:z<x
             · rw[aF zy] at h2';exact absurd h2' (by decide)
             · rw[aB zy] at h2' ⊢;exact ih b c h1' h2'
theorem kA (a b:ByteArray):hZ a b=Lib.compareBytes a.toList b.toList:=by rw[uc];rfl
theorem BJ:OrdC hZ:=by
 refine ⟨fun a b h=>?_,fun a=>?_,fun a b=>?_,fun a b c h1 h2=>?_⟩
 · rw[kA] at h;exact (eR (zZ _ _ h)).trans (eR rfl).symm
 · rw[kA];exact z6 _
 · rw[kA,kA];exact z7 _ _
 · rw[kA] at *;exact BI _ _ _ h1 h2
theorem lU {α β:Type} {f:α→α→Int} {h:β→β→Int} (hf:OrdC f) (hh:OrdC h):OrdC (fun (p q:α×β)=>if f p.1 q.1=0 then h p.2 q.2 else f p.1 q.1):=by
 refine ⟨fun p q e=>?_,fun p=>?_,fun p q=>?_,fun p q r h1 h2=>?_⟩
 · split at e
   · rename_i e1;exact Prod.ext (hf.zero _ _ e1) (hh.zero _ _ e)
   · rename_i e1;exact absurd e e1
 · simp only[hf.refl,if_true];exact hh.refl _
 · have ha:=hf.anti p.1 q.1
   by_cases e:f p.1 q.1=0
   · rw[aF e,aF (by omega)];exact hh.anti _ _
   · rw[aB e,aB (by omega)];exact ha
 · by_cases e1:f p.1 q.1=0
   · rw[aF e1] at h1;have:=hf.zero _ _ e1;rw[this]
     by_cases e2:f q.1 r.1=0
     · rw[aF e2] at h2 ⊢;exact hh.tr _ _ _ h1 h2
     · rw[aB e2] at h2 ⊢;exact h2
   · rw[aB e1] at h1
     by_cases e2:f q.1 r.1=0
     · have:=hf.zero _ _ e2;rw[←this,aB e1];exact h1
     · rw[aB e2] at h2;have ht:=hf.tr _ _ _ h1 h2
       by_cases e3:f p.1 r.1=0
       · have:=hf.zero _ _ e3;rw[←this] at h2;have:=hf.anti p.1 q.1
         omega
       · rw[aB e3];exact ht
theorem z8 {α β:Type} {f:β→β→Int} (g:α→β) (hg:∀a b,g a=g b→a=b) (hf:OrdC f):OrdC (fun a b=>f (g a) (g b)):=
 ⟨fun _ _ h=>hg _ _ (hf.zero _ _ h),fun _=>hf.refl _,fun _ _=>hf.anti _ _,fun _ _ _ h1 h2=>hf.tr _ _ _ h1 h2⟩
theorem r6:OrdC df:=by
 have h:=z8 (fun x:Nd=>(x.op,x.sort,x.name,x.num,x.kids)) (fun ⟨_,_,_,_,_⟩ ⟨_,_,_,_,_⟩ e=>by
  simp only[Prod.mk.injEq] at e;obtain ⟨rfl,rfl,rfl,rfl,rfl⟩:=e;rfl) (lU A7 (lU A7 (lU BJ (lU BJ A7))))
 have e:df=fun a b:Nd=>if cmpI a.op b.op=0 then (if cmpI a.sort b.sort=0 then (if hZ a.name b.name=0 then (if hZ a.num b.num=0 then cmpI a.kids b.kids else hZ a.num b.num) else hZ a.name b.name) else cmpI a.sort b.sort) else cmpI a.op b.op:=by
  funext a b
  show bR [_,_,_,_,_]=_;simp only[bR]
  repeat' split
  all_goals first | rfl | simp_all
 rw[e];exact h
theorem BY:OrdC dA:=by
 refine ⟨?_,?_,?_,?_⟩
 · intro a
   induction a with
   | nil=>intro b h;cases b;rfl;cases h
   | cons x a ih=>
     intro b h;cases b with
     | nil=>cases h
     | cons y b=>
       have h':(if df x y=0 then dA a b else df x y)=0:=h
       split at h'
       · rename_i e;rw[r6.zero _ _ e,ih b h']
       · rename_i e;exact absurd h' e
 · intro a
   induction a with
   | nil=>rfl
   | cons x a ih=>show (if df x x=0 then dA a a else _)=0;rw[aF (r6.refl x),ih]
 · intro a
   induction a with
   | nil=>intro b;cases b <;> rfl
   | cons x a ih=>
     intro b;cases b with
     | nil=>rfl
     | cons y b=>
       show (if df x y=0 then dA a b else df x y)= -(if df y x=0 then dA b a else df y x);have ha:=r6.anti x y
       by_cases e:df x y=0
       · rw[aF e,aF (by omega),ih b]
       · rw[aB e,aB (by omega)];exact ha
 · intro a
   induction a with
   | nil=>intro b c _ _;cases c;exact Int.le_refl 0;show (-1:Int)≤0;decide
   | cons x a ih=>
     intro b c h1 h2;cases b with
     | nil=>exact absurd h1 (by show ¬(1:Int)≤0;decide)
     | cons y b=>
       cases c with
       | nil=>exact absurd h2 (by show ¬(1:Int)≤0;decide)
       | cons z c=>
         have h1':(if df x y=0 then dA a b else df x y)≤0:=h1;have h2':(if df y z=0 then dA b c else df y z)≤0:=h2;show (if df x z=0 then dA a c else df x z)≤0
         by_cases e1:df x y=0
         · rw[aF e1] at h1';rw[r6.zero _ _ e1]
           by_cases e2:df y z=0
           · rw[aF e2] at h2' ⊢;exact ih b c h1' h2'
           · rw[aB e2] at h2' ⊢;exact h2'
         · rw[aB e1] at h1'
           by_cases e2:df y z=0
           · rw[←r6.zero _ _ e2,aB e1];exact h1'
           · rw[aB e2] at h2';have ht:=r6.tr _ _ _ h1' h2'
             by_cases e3:df x z=0
             · have e4:=r6.zero _ _ e3;rw[←e4] at h2';have:=r6.anti x y
               omega
             · rw[aB e3];exact ht
end Go.Proofs.YtpkfnnkbfphfbaaGreatDoor.Se

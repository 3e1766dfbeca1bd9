/- allSorts. -/
import Derived.Test.YtapdbeaoakcjeaaGreatDoorEYJ
import Derived.Test.YtapdbeaoakcjeaaGreatDoorEWJ
set_option maxRecDepth 100000
set_option maxHeartbeats 40000000
open Go.Lib (hid)
namespace Go.Proofs.YtapdbeaoakcjeaaGreatDoor.Se
open Go.RowKit Nmx
def asF (ts:List Nd) (E:List Nat):Nat→List Int→List Int
 | 0,S=>S
 | j+1,S=>asF ts E j (S.set j (rsF (ts.getD j ndZ).op (ts.getD j ndZ).sort (aU E S j)).1)
theorem WE.fp {p d:Nat} {ts:List Nd} {ss:List Int} {E:List Nat} {S:List Int} (h:WE p d ts ss E S):∀y∈ts,fpF y=true∧y.kids≤ts.length:=by
 induction h with
 | nil=>intro y hy;cases hy
 | @cons p d x ks rest ss rs s Ek Er Sk Sr hk hn hr ihk ihr=>
   intro y hy;have lk:=hk.lens;simp only[au,aA];rcases List.mem_cons.1 hy with rfl | hy
   · exact ⟨hn.fp,by rw[hn.kn];omega⟩
   · rcases List.mem_append.1 hy with hy | hy
     · have:=ihk y hy;exact ⟨this.1,by omega⟩
     · have:=ihr y hy;exact ⟨this.1,by omega⟩
structure RA (M X g2 c2 n:Nat) (w3:World) (Ss:List Int) (W:World):Prop where
 row:W.ownsRow M 3 1 (.slice (some ⟨M,0,none⟩) n n) n (aX Ss)
 bx:W.heap[X]? =some (.cells #[.slice (some ⟨g2,0,none⟩) n c2,.slice (some ⟨M,0,none⟩) n n] 65 (0,0))
 bel:Below M w3 W
theorem RA.far {M X g2 c2 n:Nat} {w3:World} {Ss:List Int} {W W':World} (h:RA M X g2 c2 n w3 Ss W) (hb:Below W.heap.size W W'):RA M X g2 c2 n w3 Ss W':=
 ⟨bl h.row hb (fun g hg=>(h.row.lt g hg).2),(hb.block _ (ay h.bx)).trans h.bx,h.bel.trans (hb.mono (aI (h.row.lt M rfl).2))⟩
theorem RA.drew {M X g2 c2 n:Nat} {w3:World} {Ss:List Int} {W:World} (h:RA M X g2 c2 n w3 Ss W):RA M X g2 c2 n w3 Ss W.drew:=h.far (aQ (ah _ _) 1)
theorem RA.set {M X g2 c2 n:Nat} {w3:World} {Ss:List Int} {W:World} (h:RA M X g2 c2 n w3 Ss W) (hX:M<X) {j:Nat} (r:Int):RA M X g2 c2 n w3 (Ss.set j r) (W.setCell ⟨M,j,none⟩ (.int .i64 r)):=by
 refine ⟨?_,(aB _ _ _ _ (by show X≠M;omega)).trans h.bx,h.bel.setCell (show M≤M from ag _) _⟩;have:=(h.row.stored j (.int .i64 r)).1;have e:aX (Ss.set j r)=(aX Ss).set j (.int .i64 r):=by unfold aX;rw[List.map_set]
 rw[e];exact this
section
theorem jX (g cap g2 c2 n:Nat) (ts:List Nd) (E:List Nat) (w3:World) (hn:ts.length=n) (hn1:n≤20000) (he:endsF n (ts.map Nd.kids)=some E) (hC:NodesAt w3 g ts) (hgM:g<w3.heap.size) (hg2M:g2<w3.heap.size)
    (hE:∀t,t<n→w3.cell? ⟨g2,t,none⟩=some (.int .i64 (E.getD t 0:Nat))) (hfp:∀y∈ts,fpF y=true):
    Calls Tryz.prog 46 #[.slice (some ⟨g,0,none⟩) n cap,.slice (some ⟨g2,0,none⟩) n c2] w3 fun e w'=>∃M,e=.returned (.slice (some ⟨M,0,none⟩) n n)∧M<w'.heap.size∧w3.heap.size≤M∧(∀t,t<n→w'.cell? ⟨M,t,none⟩=some (.int .i64 ((asF ts E n (List.replicate n 0)).getD t 0)))∧(asF ts E n (List.replicate n 0)).length=n∧Below w3.heap.size w3 w':=by
 obtain ⟨i0,hi,hz0,hz1,hz2⟩:=info_parts infoInt;have hkl:=jL (n:=n) (ks:=ts.map Nd.kids) (by simp[hn]) he;obtain ⟨k1,k2,k3,k4⟩:=hkl;have HC3:=hid hC;have HCE3:=hid hE;have HFP:=hid hfp;have HN:=hid hn;have K1:=hid k1;have K2:=hid k2;have K3:=hid k3;have K4:=hid k4;clear hC hE hfp hn k1 k2 k3 k4 he
 go_enter Tryz.func46,Tryz.ntmps46
 go_wp2_with (refine wpList_make_full _ rfl (.tmp 9) (.tmp 9) 23 rfl w3.heap.size 3 i0 (.int .i64 0) 1 Tryz.underlying23 hi hz0 hz1 .i64 .i64 n n n rfl rfl rfl rfl (by rw[hz2];omega) (by unfold maxLen;omega) (ag _) ?_;intro w4 hown hgrow)
 have hb4:Below w3.heap.size w3 w4:=(ah _ _).grown hgrow (ag _) (fun k h=>by cases h)
 have hown0:w4.ownsRow w3.heap.size 3 1 (.slice (some ⟨w3.heap.size,0,none⟩) n n) n (aX (List.replicate n 0)):=by
  have e:(madeCells (Value.cells (.int .i64 0)) (n*1)).toList=aX (List.replicate n 0):=by rw[d6 n];simp[ew,aX]
  rwa [e] at hown
 have hM4:=(hown0.lt w3.heap.size rfl).2;have hX:=heap_alloc_new w4 (.cells #[.slice (some ⟨g2,0,none⟩) n c2,.slice (some ⟨w3.heap.size,0,none⟩) n n] 65);have hown5:=hown0.alloc (.cells #[.slice (some ⟨g2,0,none⟩) n c2,.slice (some ⟨w3.heap.size,0,none⟩) n n] 65);have hb5:=hb4.alloc (by omega) (.cells #[.slice (some ⟨g2,0,none⟩) n c2,.slice (some ⟨w3.heap.size,0,none⟩) n n] 65);generalize w4.alloc (.cells #[.slice (some ⟨g2,0,none⟩) n c2,.slice (some ⟨w3.heap.size,0,none⟩) n n] 65)=w5 at *;generalize hXe:w4.heap.size=X at *;generalize hMe:w3.heap.size=M at *;have HR5:Hid (RA M X g2 c2 n w3 (List.replicate n 0) w5):=hid ⟨hown5,hX,hb5⟩;have HMe:=hid hMe;clear hown hgrow hown0 hX hown5 hb5 hb4 hXe hMe
 go_loopw [6] (fun i wr=>∃(j:Nat) (Ss:List Int),j≤n∧i=.int .i64 ((j:Int)-1)∧Ss.length=n∧asF ts E j Ss=asF ts E n (List.replicate n 0)∧RA M X g2 c2 n w3 Ss wr) (fun i _=>(intOf i+1).toNat)
 case atStart=>exact ⟨n,_,ag _,rfl,by simp,rfl,HR5.out⟩
 case round=>
  clear HR5;obtain ⟨j,Ss,hj,rfl,hsl,hsr,hra⟩:=hrel;have HRA:=hid hra;have HSR:=hid hsr;have HSL:=hid hsl;clear hra hsr hsl;cases j with
  | zero=>
    have hz0':((0:Nat):Int)-1= -1:=rfl;rw[hz0'];have HFN:Hid (asF ts E n (List.replicate n 0)=Ss):=hid HSR.out.symm;have HC5:Hid (∀t,t<n→wr.cell? ⟨M,t,none⟩=some (.int .i64 (Ss.getD t 0))):=hid fun t ht=>(HRA.out.row.cellAt t (by omega)).trans (by unfold aX;rw[List.getElem?_map,aw,aq (by rw[HSL.out];exact ht)];rfl)
    have b1:=ac HRA.out.bx 1
    go_wp2
    go_ret
    exact ⟨M,rfl,(HRA.out.row.lt M rfl).2,by have:=HMe.out;omega,by rw[HFN.out];exact HC5.out,by rw[HFN.out];exact HSL.out,by rw[HMe.out];exact HRA.out.bel⟩
  | succ j=>
    have hji:((j+1:Nat):Int)-1=(j:Int):=by omega
    rw[hji];have hjn:j<n:=by omega
    have hjl:j<ts.length:=by rw[HN.out];exact hjn
    have hx:ts[j]? =some ts[j]:=aq hjl;have hgd:ts.getD j ndZ=ts[j]:=by rw[aw,hx];rfl
    have hf:=HFP.out ts[j] (List.getElem_mem hjl);have hk4:=K4.out j hjn;have hmk:(ts.map Nd.kids).getD j 0=ts[j].kids:=by rw[aw,List.getElem?_map,hx];rfl
    rw[hmk] at hk4;have HGD:=hid hgd;have HN3:Hid (∀k,k<5→w3.cell? ⟨g,j*5+k,none⟩=ts[j].cells[k]?):=hid fun k hk=>HC3.out j _ hx k hk
    clear hji hx hgd hmk;generalize ts[j]=x at *;obtain ⟨op,sort,name,num,kids⟩:=x;simp only at hk4;have hpf:=my hf;have HOP:Hid (1≤op∧op≤20):=hid hpf.1;have HLN:Hid ((arF op).1≤(aU E Ss j).length):=hid (by unfold aU;rw[List.length_map,hk4.2];exact hpf.2);have HKL:Hid ((aU E Ss j).length≤1000000):=hid (by unfold aU;rw[List.length_map];have h1:=eI E (j+1) (E.getD j 0);have h2:=K3.out j hjn;omega);have hXM:M<X:=hM4;have hMw:M<wr.heap.size:=(HRA.out.row.lt M rfl).2
    have HKS:Hid (∀W,RA M X g2 c2 n w3 Ss W→Calls Tryz.prog 73 #[.agg #[.slice (some ⟨g2,0,none⟩) n c2,.slice (some ⟨M,0,none⟩) n n],.int .i64 j] W fun e w'=>∃v,e=.returned v∧(∃a g' c,v=.slice a (aU E Ss j).length c∧RowI w' a g' (aU E Ss j))∧Below W.heap.size W w'):=hid fun W hW=>by
     have hks:=eE (some ⟨g2,0,none⟩) (some ⟨M,0,none⟩) g2 M c2 n E Ss j W (by rw[K1.out];omega) (HSL.out.trans K1.out.symm) (fun _=>rfl) (fun _=>rfl) (ap hg2M (aI (hW.row.lt M rfl).2)) (hW.row.lt M rfl).2
      (fun t ht=>(hW.bel.cell (p:=⟨g2,t,none⟩) hg2M).trans ((HCE3.out t (by rw[K1.out] at ht;exact ht)).trans (by rw[aw,aq ht];rfl)))
      (fun t ht=>(hW.row.cellAt t (by rw[K1.out] at ht;omega)).trans (by rw[K1.out] at ht;unfold aX;rw[List.getElem?_map,aw,aq (by rw[HSL.out];exact ht)];rfl))
      (by rw[K1.out];exact hjn) (fun t ht=>K2.out t (by rw[K1.out] at ht;exact ht)) (fun t ht=>by rw[K1.out] at ht ⊢;exact K3.out t ht)
     rw[K1.out] at hks;refine hks.mono ?_;rintro e w' ⟨v,rfl,hown',hb'⟩;obtain ⟨a,g',c,hv,q1,q2,q3⟩:=oR hown' (ap (Nat.lt_of_le_of_lt (aE _) (hW.row.lt M rfl).2) hb'.size) HKL.out;exact ⟨v,rfl,⟨a,g',c,hv,⟨q1,q2,HKL.out,q3⟩⟩,hb'⟩
    have HRS:Hid (∀W a g' c,RowI W a g' (aU E Ss j)→Calls Tryz.prog 42 #[.agg #[.int .i64 op,.int .i64 sort,.string name,.string num,.int .i64 kids],.slice a (aU E Ss j).length c] W fun e w'=>e=.returned (.tuple #[.int .i64 (rsF op sort (aU E Ss j)).1,.bool (rsF op sort (aU E Ss j)).2])∧Below W.heap.size W w'):=hid fun W a g' c hrow=>dj ⟨op,sort,name,num,kids⟩ a g' c _ W hrow HOP.out HLN.out
    have HSN:Hid (asF ts E j (Ss.set j (rsF op sort (aU E Ss j)).1)=asF ts E n (List.replicate n 0)):=hid (by
     rw[←HSR.out];conv=>rhs;unfold asF
     rw[HGD.out])
    have hi5:0≤(j:Int)∧(j:Int)<(n:Int):=by omega
    clear hk4 hpf hf;generalize hr1:(rsF op sort (aU E Ss j)).1=r1 at *;generalize hr2:(rsF op sort (aU E Ss j)).2=r2 at *;clear hr1 hr2
    go_wp2
    refine aV [[],[0],[],[],[],[3,4],[3,4,5],[],[],[7,8],[3,4,5,6,7,8,9],[3,4,5,6,7,8,9,10],[3,4,5,6,7,8,9,10,11],[3,4,5,6,7,8,9,10,11],[0,1,2,3,4,5,6,7,8,9,10,11,12],[0,1,2,3,4,5,6,7,8,9,10,11,12,14]] (fun W=>RA M X g2 c2 n w3 Ss W) (fun _=>True) ?_
    iterate 6
     apply aR
     · intro x;go_simp;done
     · intro x W R hW hF hR;have b0:=ac hW.bx 0;have b1:=ac hW.bx 1;clear hF;unfold aN
       go_simp
       simp only[aF];exact hR _ (ah _ _)
     simp only[Act.put,aa,aj,am]
    apply aR
    · intro x;go_simp;done
    · intro x W R hW hF hR;have nn:=fun k (hk:k<5)=>(hW.bel.cell (p:=⟨g,j*5+k,none⟩) hgM).trans (HN3.out k hk)
      have n0:=nn 0 (by omega);have n1:=nn 1 (by omega);have n2:=nn 2 (by omega);have n3:=nn 3 (by omega);have n4:=nn 4 (by omega);simp only[Nd.cells,List.getElem?_cons_succ,List.getElem?_cons_zero,Nat.add_zero] at n0 n1 n2 n3 n4;clear hF nn;unfold aN
      go_simp
      simp only[aF];exact hR _ (ah _ _)
    simp only[Act.put,aa,aj,am]
    iterate 2
     apply aR
     · intro x;go_simp;done
     · intro x W R hW hF hR;have b0:=ac hW.bx 0;have b1:=ac hW.bx 1;clear hF;unfold aN
       go_simp
       simp only[aF];exact hR _ (ah _ _)
     simp only[Act.put,aa,aj,am]
    refine cY (fun v W=>∃a g' c,v=.slice a (aU E Ss j).length c∧RowI W a g' (aU E Ss j)) (fun _ _ _ h hb=>let ⟨a,g',c,h1,h2⟩:=h;⟨a,g',c,h1,h2.far hb⟩) ?_ ?_ ?_
    · intro x;go_simp;done
    · intro x W R hW hF hR;have b0:=ac hW.bx 0;have b1:=ac hW.bx 1;clear hF;unfold aN
      go_simp
      simp only[aF];refine (HKS.out W hW).mono ?_;rintro e w4 ⟨v,rfl,hv,hb4⟩;exact ⟨v,rfl,hR _ _ hv hb4⟩
    simp only[Act.put,aa,aj,am,au,aH,Nat.zero_add,Nat.reduceAdd];apply aR
    · intro x;go_simp;done
    · intro x W R hW hF hR;obtain ⟨a,g',c,hx,hrow⟩:=hF.1.2 rfl rfl rfl;simp only[hx];clear hF;unfold aN
      go_simp
      simp only[aF];refine (HRS.out W a g' c hrow).mono ?_;rintro e w4 ⟨rfl,hb4⟩;exact ⟨_,rfl,hR _ hb4⟩
    simp only[Act.put,aa,aj,am]
    iterate 2
     apply aR
     · intro x;go_simp;done
     · intro x W R hW hF hR;have b0:=ac hW.bx 0;have b1:=ac hW.bx 1;clear hF;unfold aN
       go_simp
       simp only[aF];exact hR _ (ah _ _)
     simp only[Act.put,aa,aj,am]
    apply gN
    · intro x;go_simp;done
    · intro x W R hW hF hR;clear hF hW;unfold aN
      go_simp
      simp only[aF];exact hR _ (ah _ _)
    simp only[Act.put,aa,aj,am];apply aR
    · intro x;go_simp;done
    · intro x W R hW hF hR;have b0:=ac hW.bx 0;have b1:=ac hW.bx 1;clear hF;unfold aN
      go_simp
      simp only[aF];exact hR _ (ah _ _)
    simp only[Act.put,aa,aj,am];refine fG (fun _ W=>RA M X g2 c2 n w3 (Ss.set j r1) W) (fun _ _ _ h hb=>h.far hb) (fun _ _ _ _ h=>h) ?_ ?_ ?_
    · intro x;go_simp;done
    · intro x W R hW hF hD hR;have fz:=hW.row.frozenAt j;obtain ⟨u,hu⟩:∃u,W.cell? ⟨M,j,none⟩=some u:=⟨_,(hW.row.cellAt j (by omega)).trans (by unfold aX;rw[List.getElem?_map,aq (by rw[HSL.out];omega)];rfl)⟩
      clear hF hD;unfold aN
      go_simp
      simp only[aF];exact hR _ _ (hW.set hXM r1) trivial (by simp[World.setCell])
    simp only[Act.put];refine cz (by kernel_rfl) (by kernel_rfl) (by kernel_rfl) (fun _ _ h hb=>h.far hb) (fun _ _ _ _=>trivial) (fun _ _=>trivial) (HRA.out.drew) ?_;intro x W hE hW hF hD;clear hD;have HT:=hid (hF.1.2 rfl);clear hW hF
    go_wp2
    go_roundw
    case rel=>exact ⟨j,Ss.set j r1,by omega,by go_num,by rw[aL];exact HSL.out,HSN.out,HT.out⟩
    case measure=>simp[intOf]
end
end Go.Proofs.YtapdbeaoakcjeaaGreatDoor.Se
/- New of package term at the root and the children of a term. -/
namespace Go.Proofs.YtapdbeaoakcjeaaGreatDoor.Se
open Go.RowKit Nmx
theorem WE.endsF {d:Nat} {ts:List Nd} {ss:List Int} {E:List Nat} {S:List Int} (h:WE 0 d ts ss E S):Se.endsF ts.length (ts.map Nd.kids)=some E:=by
 have:=h.ends ts.length [] [] rfl rfl (by simp);rwa [List.append_nil,List.append_nil] at this
section
theorem qO {d:Nat} {ts:List Nd} {ss:List Int} {E:List Nat} {S:List Int} (hw:WE 0 d ts ss E S) (hl:ts.length≤420) (h0:0<ts.length) (g cap:Nat) (w:World) (hc:NodesAt w g ts) (hg:g<w.heap.size):
    Calls Tryz.prog 44 #[.slice (some ⟨g,0,none⟩) ts.length cap] w fun e w'=>∃g2 c2,e=.returned (.tuple #[.slice (some ⟨g2,0,none⟩) ts.length c2,.bool true])∧g2<w'.heap.size∧w.heap.size≤g2∧(∀t,t<ts.length→w'.cell? ⟨g2,t,none⟩=some (.int .i64 (E.getD t 0:Nat)))∧Below w.heap.size w w':=by
 have hte:=jM (some ⟨g,0,none⟩) g cap ts w (by omega) (fun _=>rfl) hg hc;have hE:=hw.lens.1;unfold EndsPost at hte;rw[hw.endsF] at hte;refine hte.mono ?_;rintro e w2 ⟨hb2,v,rfl,ho2⟩;obtain ⟨a2,g2,c2,hv,r1,r2,r3⟩:=gC (E:=E) (by rw[hE];exact ho2) (by have:=hb2.size;omega);rw[hE] at hv r1;subst hv;obtain rfl:=r1 (by omega);exact ⟨g2,c2,rfl,r2,(ho2.lt g2 rfl).1,fun t ht=>(r3 t (by omega)).trans (by rw[aw,aq (by omega)];rfl),hb2⟩
end
structure NB (S M n:Nat) (w:World) (op sort:Int) (name num:ByteArray) (kd:Int) (ss:List Int) (j:Nat) (W:World):Prop where
 bx:W.heap[S]? =some (.cells #[.int .i64 op,.int .i64 sort,.string name,.string num,.int .i64 kd] 34 (0,0))
 row:∃xs:List Int,xs.length=n∧(∀q,q<j→xs[q]? =ss[q]?)∧W.ownsRow (S+1) 3 1 (.slice (some ⟨M,0,none⟩) n n) n (aX xs)
 bel:Below S w W
section
variable {S M n:Nat} {w:World} {op sort:Int} {name num:ByteArray} {kd:Int} {ss:List Int} {j:Nat} {W W':World}
theorem NB.lt (h:NB S M n w op sort name num kd ss j W):S<M∧M<W.heap.size:=by
 obtain ⟨_,_,_,h3⟩:=h.row;have:=h3.lt M rfl
 omega
theorem NB.far (h:NB S M n w op sort name num kd ss j W) (hb:Below W.heap.size W W'):NB S M n w op sort name num kd ss j W':=
 ⟨(hb.block _ (ay h.bx)).trans h.bx,let ⟨s,h1,h2,h3⟩:=h.row;⟨s,h1,h2,bl h3 hb (fun g hg=>(h3.lt g hg).2)⟩,h.bel.trans (hb.mono (aI (ay h.bx)))⟩
theorem NB.cell (h:NB S M n w op sort name num kd ss j W) {q:Nat} (hq:q<n):(∃u,W.cell? ⟨M,q,none⟩=some u)∧W.frozen? ⟨M,q,none⟩=false:=by
 obtain ⟨xs,h1,h2,h3⟩:=h.row;exact ⟨⟨_,(h3.cellAt q (by omega)).trans (by unfold aX;rw[List.getElem?_map,aq (by omega)];rfl)⟩,h3.frozenAt q⟩
theorem NB.set (h:NB S M n w op sort name num kd ss j W) (hj:j<n) {v:Int} (hv:ss[j]? =some v):NB S M n w op sort name num kd ss (j+1) (W.setCell ⟨M,j,none⟩ (.int .i64 v)):=by
 obtain ⟨xs,h1,h2,h3⟩:=h.row;have hl:=h.lt;refine ⟨(aB _ _ _ _ (by show S≠M;omega)).trans h.bx,⟨xs.set j v,by rw[aL];exact h1,fun q hq=>?_,?_⟩,h.bel.setCell (show S≤M by omega) _⟩
 · by_cases hqj:q=j
   · subst hqj;rw[hv,List.getElem?_set_self (by omega)]
   · rw[List.getElem?_set_ne (fun e=>hqj e.symm)];exact h2 q (by omega)
 · have e:aX (xs.set j v)=(aX xs).set j (.int .i64 v):=by unfold aX;rw[List.map_set]
   rw[e];exact (h3.stored j (.int .i64 v)).1
theorem NB.kid (h:NB S M n w op sort name num kd ss j W) (v:Int):NB S M n w op sort name num v ss j (W.setCell ⟨S,4,none⟩ (.int .i64 v)):=by
 obtain ⟨xs,h1,h2,h3⟩:=h.row;have hl:=h.lt;exact ⟨heap_set h.bx 4 (.int .i64 v),⟨xs,h1,h2,fD h3 (fun g hg=>by have e:M=g:=aG hg;exact aB _ _ _ _ (by show g≠S;omega))⟩,h.bel.setCell (show S≤S from ag _) _⟩
theorem NB.rowI (h:NB S M n w op sort name num kd ss n W) (hs:ss.length=n) (hn:n≤1000000):RowI W (some ⟨M,0,none⟩) M ss:=by
 obtain ⟨xs,h1,h2,h3⟩:=h.row
 have e:xs=ss:=by
  apply List.ext_getElem?;intro q
  by_cases hq:q<n
  · exact h2 q hq
  · rw[List.getElem?_eq_none (by omega),List.getElem?_eq_none (by omega)]
 subst e;refine ⟨fun _=>rfl,h.lt.2,by omega,fun t ht=>?_⟩;rw[h3.cellAt t (by omega)];unfold aX;rw[List.getElem?_map,aq ht];rfl
end
section
theorem yu {ts:List Nd} {s:Int} {x:Nd} {L:List (List Nd×Int×Int)} {E:List Nat} {Sx:List Int} (hr:RootAt ts s x L E Sx) (h:WOk ts s) (kd:Int) (ak:Option Addr) (gk ck:Nat) (w:World) (hEn:Env w) (hk:Kds w ak gk (L.map (·.1))):
    Calls Tryz.prog 15 #[.agg #[.int .i64 x.op,.int .i64 x.sort,.string x.name,.string x.num,.int .i64 kd],.slice ak L.length ck] w fun e w'=>∃g c,e=.returned (.tuple #[.slice (some ⟨g,0,none⟩) ts.length c,.int .i64 0])∧NodesAt w' g ts∧Sft w' g ts.length∧w.heap.size≤g∧Below w.heap.size w w':=by
 obtain ⟨i0,hi,hz0,hz1,hz2⟩:=info_parts infoInt;have hle:=h.le;have hlen:ts.length=1+(L.map (·.1)).flatten.length:=by rw[hr.eq,au,Nat.add_comm]
 have hLn:L.length≤420:=by
  have h1:=(hr.we.fp x (by rw[hr.eq];simp)).2;have h2:=hr.ok.kn;rw[List.length_map] at h2
  omega
 have HK:=hid hk;have HEn:=hid hEn;obtain ⟨n,hn⟩:∃n,L.length=n:=⟨_,rfl⟩
 have HNL:=hid hn;rw[hn] at hLn ⊢;clear hk hEn hn;obtain ⟨op,sort,name,num,kids⟩:=x;have hkn:kids=(n:Int):=by have:=hr.ok.kn;rw[List.length_map,HNL.out] at this;exact this
 subst hkn;simp only;have hbx:=heap_alloc_new w (.cells #[.int .i64 op,.int .i64 sort,.string name,.string num,.int .i64 kd] 34);have hal:=aD w (.cells #[.int .i64 op,.int .i64 sort,.string name,.string num,.int .i64 kd] 34);have hsz1:(w.alloc (.cells #[.int .i64 op,.int .i64 sort,.string name,.string num,.int .i64 kd] 34)).heap.size=w.heap.size+1:=by simp
 have HR:=hid hr;have HOK:=hid h;obtain ⟨ss,hss⟩:∃ss,L.map (·.2.2)=ss:=⟨_,rfl⟩
 have HSS:=hid hss;have hsl:ss.length=n:=by rw[←hss,List.length_map,HNL.out]
 have HSL:=hid hsl;clear hr h hss hsl
 go_enter Tryz.func15,Tryz.ntmps15
 go_wp2_with (refine wpList_make_full _ rfl (.tmp 15) (.tmp 15) 23 rfl (w.heap.size+1) 3 i0 (.int .i64 0) 1 Tryz.underlying23 hi hz0 hz1 .i64 .i64 n n n rfl rfl rfl rfl (by rw[hz2];omega) (by unfold maxLen;omega) (by rw[hsz1];exact ag _) ?_;intro w2 hown hgrow)
 rw[hsz1] at hown;generalize w.alloc (.cells #[.int .i64 op,.int .i64 sort,.string name,.string num,.int .i64 kd] 34)=w1 at *;generalize hS:w.heap.size=S at *;have HSe:=hid hS;clear hS;have hb2:Below w1.heap.size w1 w2:=(ah _ _).grown hgrow (ag _) (fun k h=>by cases h)
 have hown0:w2.ownsRow (S+1) 3 1 (.slice (some ⟨S+1,0,none⟩) n n) n (aX (List.replicate n 0)):=by
  have e:(madeCells (Value.cells (.int .i64 0)) (n*1)).toList=aX (List.replicate n 0):=by rw[d6 n];simp[ew,aX]
  rwa [e] at hown
 have hnb:NB S (S+1) n w op sort name num kd ss 0 w2:=⟨(hb2.block _ (by omega)).trans hbx,⟨List.replicate n 0,by simp,fun q hq=>absurd hq (Nat.not_lt_zero q),hown0⟩,hal.trans (hb2.mono (by omega))⟩
 have HNB:=hid hnb;clear hown hgrow hown0 hb2 hbx hal hsz1 hnb;generalize S+1=M at *
 go_loopw [19] (fun i wr=>∃j:Nat,j≤n∧i=.int .i64 j∧NB S M n w op sort name num kd ss j wr) (fun i _=>n-(intOf i).toNat)
 case atStart=>exact ⟨0,aE _,rfl,HNB.out⟩
 case round=>
  clear HNB;obtain ⟨j,hj,rfl,hnb⟩:=hrel;have HNB:=hid hnb;clear hnb;have HEw:Hid (Env wr):=hid (HEn.out.far (by rw[HSe.out];exact HNB.out.bel));have HKw:Hid (Kds wr ak gk (L.map (·.1))):=hid (HK.out.far (by rw[HSe.out];exact HNB.out.bel))
  by_cases hlt:j<n
  · have hjL:j<L.length:=by rw[HNL.out];exact hlt
    obtain rfl:=HK.out.1 (by rw[List.length_map,HNL.out];omega);have hmem:L[j]∈L:=List.getElem_mem hjL;have hko:=HR.out.ks _ hmem
    have hs1:1≤L[j].2.2:=by
     obtain ⟨_,_,_,_,_,hx⟩:=hko.wx;exact (hx.we.sorts _ (List.mem_singleton.2 rfl)).1
    obtain ⟨gj,cj,hcj,hNj,hlj⟩:=HKw.out.2.2 j L[j].1 (by rw[List.getElem?_map,aq hjL];rfl);have hso:=sm hko.ok gj cj wr HEw.out hNj hlj;have hsj:ss[j]? =some L[j].2.2:=by rw[←HSS.out,List.getElem?_map,aq hjL];rfl
    have HSJ:=hid hsj;clear hko hmem hNj hsj;generalize L[j].2.2=sj at *;generalize L[j].1.length=m at *;have hz:(sj==0)=false:=by simp;omega
    go_wp2_with fail
    refine hso.mono ?_;rintro e w4 ⟨rfl,hb4⟩;have hn4:=HNB.out.far hb4;obtain ⟨⟨u,hu⟩,hfz⟩:=hn4.cell hlt;have HN5:=hid (hn4.set hlt HSJ.out);have hlM:=hn4.lt.2;clear hb4 hso HNB HKw hcj hn4
    go_wp2
    go_roundw
    case rel=>exact ⟨j+1,by omega,by go_num,HN5.out⟩
    case measure=>simp[intOf];omega
  · obtain rfl:j=n:=by omega
    have HN3:=hid (HNB.out.kid (j:Int));have hbb:=ac HNB.out.bx 4;have hzz:=aM HNB.out.bx 4;have c0:=ac HN3.out.bx 0;have c1:=ac HN3.out.bx 1;have c2:=ac HN3.out.bx 2;have c3:=ac HN3.out.bx 3;have c4:=ac HN3.out.bx 4;have hE3:Env (wr.setCell ⟨S,4,none⟩ (.int .i64 j)):=HEn.out.far (by rw[HSe.out];exact HN3.out.bel);have HX:Hid ((⟨op,sort,name,num,(j:Int)⟩:Nd)∈ts):=hid (by rw[HR.out.eq];simp);have hfp:=eC ⟨op,sort,name,num,(j:Int)⟩ _ (aC (HOK.out.sh _ HX.out) (by decide)) hE3;have hf:=HR.out.ok.fp;rw[hf] at hfp;have hpf:=my hf;have HOP:Hid (1≤op∧op≤20):=hid hpf.1;have HAR:Hid ((arF op).1≤(ss.length:Int)):=hid (by rw[HSL.out];exact hpf.2);unfold Nd.val at hfp;simp only at hfp
    -- the first child's first node, where the operator is a product
    have HG:Hid (∀W,Below S w W→(op==15)=true→∃g0 m0 c0,ak=some ⟨gk,0,none⟩∧0<j∧0<m0∧W.cell? ⟨gk,0,none⟩=some (.slice (some ⟨g0,0,none⟩) m0 c0)∧W.cell? ⟨g0,0,none⟩=some (.int .i64 3)):=hid fun W hW h15=>by
     have h15':op=15:=by simpa using h15
     have h2:=hpf.2;rw[h15'] at h2
     have hj2:2≤j:=by
      have:(2:Int)≤(j:Int):=h2
      omega
     have hL0:0<L.length:=by rw[HNL.out];omega
     have hko:=HR.out.ks _ (List.getElem_mem hL0);obtain ⟨gj,cj,q1,q2,q3⟩:=(HK.out.far (by rw[HSe.out];exact hW)).2.2 0 L[0].1 (by rw[List.getElem?_map,aq hL0];rfl);have hm:=HR.out.ok.mul h15'
     obtain ⟨y,r,hy⟩:∃y r,L[0].1=y::r:=by
      cases hh:L[0].1 with
      | nil=>exact absurd hh hko.ok.ne
      | cons y r=>exact ⟨y,r,rfl⟩
     have hfl:(L.map (·.1)).flatten.getD 0 ndZ=y:=by
      rw[show L=L[0]::L.drop 1 by rw[←List.drop_eq_getElem_cons hL0,List.drop_zero],List.map_cons,List.flatten_cons];rw[hy];rfl
     rw[hfl] at hm;have q4:=q2 0 y (by rw[hy];rfl) 0 (by omega);simp only[Nd.cells,List.getElem?_cons_zero,Nat.zero_mul,Nat.add_zero] at q4;rw[hm] at q4;exact ⟨gj,L[0].1.length,cj,HK.out.1 (by rw[List.length_map];omega),by omega,by rw[hy];simp,q1,q4⟩
    have HBw:Hid (Below S w wr):=hid HNB.out.bel;clear hlt hE3 hf hpf HNB
    go_wp2_with fail
    generalize wr.setCell ⟨S,4,none⟩ (.int .i64 j)=w3 at *;refine hfp.mono ?_;rintro e w4 ⟨rfl,hb4⟩;have HN4:=hid (HN3.out.far hb4);have hG4:=HG.out w4 HN4.out.bel;clear hb4 hfp HN3 c0 c1 c2 c3 c4 hbb hzz HG;have c0:=ac HN4.out.bx 0;have c1:=ac HN4.out.bx 1;have c2:=ac HN4.out.bx 2;have c3:=ac HN4.out.bx 3;have c4:=ac HN4.out.bx 4;have hrs:=dj ⟨op,sort,name,num,(j:Int)⟩ (some ⟨M,0,none⟩) M j ss w4 (HN4.out.rowI HSL.out (by omega)) HOP.out HAR.out;have hok:=HR.out.ok.rs;simp only at hok;rw[HSS.out] at hok;simp only at hrs;rw[hok,HSL.out] at hrs;unfold Nd.val at hrs;simp only at hrs;clear hok;have HLEN:Hid (ts.length=1+(L.map (·.1)).flatten.length):=hid hlen;have HHG:Hid (br 0 E [] 0≤257):=hid (by have h1:=HR.out.hg;have h2:=HR.out.dp;omega);have HNAF:Hid (∀S',naF ts E S'=true):=hid fun S'=>HOK.out.na E S'
    obtain ⟨N,hN⟩:∃N,ts.length=N:=⟨_,rfl⟩
    have HNN:=hid hN;rw[hN] at hlen hle;have hN0:0<N:=by omega
    clear hN hlen;cases h15:(op==15)
    · clear hG4
      go_wp2_with fail
      refine hrs.mono ?_;rintro e w5 ⟨rfl,hb5⟩;have hn5:=HN4.out.far hb5;have c0:=ac hn5.bx 0;have c1:=ac hn5.bx 1;have c2:=ac hn5.bx 2;have c3:=ac hn5.bx 3;have c4:=ac hn5.bx 4;have hnode:=gD ⟨op,sort,name,num,(j:Int)⟩ _ gk ck (L.map (·.1)) w5 (HK.out.far (by rw[HSe.out];exact hn5.bel)) (by have:=HLEN.out;have:=HNN.out;omega) (by rw[List.length_map,HNL.out];omega);rw[List.length_map,HNL.out] at hnode;unfold Nd.val at hnode;simp only at hnode;have HB5:Hid (Below w.heap.size w w5):=hid (by rw[HSe.out];exact hn5.bel);clear hb5 hrs hn5 HN4
      go_wp2_with fail
      refine hnode.mono ?_;rintro e w6 ⟨g,c,rfl,hNd,hsf,hgm,hb6⟩;have hgl:=hsf.lt;rw[←HLEN.out] at hsf;have HSF:=hid hsf;clear hsf
      have hNt:NodesAt w6 g ts:=by
       rw[HR.out.eq];rw[List.length_map,HNL.out] at hNd;exact hNd
      rw[←HLEN.out,HNN.out];have hends:=qO HR.out.we (by rw[HNN.out];exact hle) (by rw[HNN.out];exact hN0) g c w6 hNt hgl;rw[HNN.out] at hends;have HB6:=hid (HB5.out.trans (hb6.mono HB5.out.size));have HG6:Hid (w.heap.size≤g):=hid (aC HB5.out.size hgm);have HNT:=hid hNt;clear hNd hNt hb6 hgm hnode c0 c1 c2 c3 c4
      go_wp2_with fail
      refine hends.mono ?_;rintro e w7 ⟨g2,c2,rfl,l2,m2,hE2,hb7⟩;have hgl7:=ap hgl hb7.size;replace HSF:=hid (HSF.out.far hb7);have hN7:=HNT.out.below hb7 hgl;have has:=jX g c g2 c2 N ts E w7 HNN.out (by omega) (by rw[←HNN.out];exact HR.out.we.endsF) hN7 hgl7 l2 hE2 (fun y hy=>(HR.out.we.fp y hy).1);have HB7:=hid (HB6.out.trans (hb7.mono HB6.out.size));have HN7:=hid hN7;have HE7:=hid hE2;clear hb7 hN7 hE2 hends HNT
      go_wp2_with fail
      refine has.mono ?_;rintro e w8 ⟨M2,rfl,lM2,mM2,hS2,hlS2,hb8⟩;have hgl8:=ap hgl7 hb8.size;replace HSF:=hid (HSF.out.far hb8);have l28:=ap l2 hb8.size;have hE8:∀t,t<N→w8.cell? ⟨g2,t,none⟩=some (.int .i64 (E.getD t 0:Nat)):=fun t ht=>(hb8.cell (p:=⟨g2,t,none⟩) l2).trans (HE7.out t ht)
      have hN8:=HN7.out.below hb8 hgl7;obtain ⟨S',hS'⟩:∃S',asF ts E N (List.replicate N 0)=S':=⟨_,rfl⟩
      rw[hS'] at hS2 hlS2;have hna:=e6 g c g2 c2 M2 N ts E S' w8 hgl8 hN8 (by rw[HNN.out];omega) HR.out.we.endsF (by rw[HNN.out];exact hlS2) l28 lM2 (fun t ht=>hE8 t (by rw[HNN.out] at ht;exact ht)) (fun t ht=>hS2 t (by rw[HNN.out] at ht;exact ht));rw[HNAF.out,HNN.out] at hna;have HB8:=hid (HB7.out.trans (hb8.mono HB7.out.size));have HN8:=hid hN8;have HE8:=hid hE8;clear hb8 hN8 hE8 has HN7 HE7 hS2 hS'
      go_wp2_with fail
      refine hna.mono ?_;rintro e w9 ⟨rfl,hb9⟩
      have hh:=gA (some ⟨g2,0,none⟩) g2 c2 N E w9 (by omega) (by rw[HR.out.we.lens.1];exact HNN.out) (fun _=>rfl) (ap l28 hb9.size) (fun t ht=>(hb9.cell (p:=⟨g2,t,none⟩) l28).trans (by
       rw[HE8.out t (by rw[HR.out.we.lens.1,HNN.out] at ht;exact ht),aw,aq ht];rfl))
      have hHG:=HHG.out;generalize br 0 E [] 0=ht at *;have e1:¬(20000:Int)<(N:Int):=by omega
      have e2:¬(257:Int)<(ht:Int):=by omega
      have HB9:=hid (HB8.out.trans (hb9.mono HB8.out.size));have HN9:=hid (HN8.out.below hb9 hgl8);have hgl9:=ap hgl8 hb9.size;replace HSF:=hid (HSF.out.far hb9);clear hb9 hna HN8 HE8 hHG
      go_wp2_with fail
      refine hh.mono ?_;rintro e w10 ⟨rfl,hb10⟩;have HB10:=hid (HB9.out.trans (hb10.mono HB9.out.size));have HN10:=hid (HN9.out.below hb10 hgl9);have hgl10:=ap hgl9 hb10.size;replace HSF:=hid (HSF.out.far hb10);clear hb10 hh HN9
      go_wp2
      go_ret2
      exact ⟨g,c,by rw[HNN.out];rfl,HN10.out,HSF.out,HG6.out,HB10.out⟩
    · obtain ⟨g0,m0,c0',hak,hj0,hm0,q1,q2⟩:=hG4 h15;subst hak
      go_wp2_with fail
      refine hrs.mono ?_;rintro e w5 ⟨rfl,hb5⟩;have hn5:=HN4.out.far hb5;have c0:=ac hn5.bx 0;have c1:=ac hn5.bx 1;have c2:=ac hn5.bx 2;have c3:=ac hn5.bx 3;have c4:=ac hn5.bx 4;have hnode:=gD ⟨op,sort,name,num,(j:Int)⟩ _ gk ck (L.map (·.1)) w5 (HK.out.far (by rw[HSe.out];exact hn5.bel)) (by have:=HLEN.out;have:=HNN.out;omega) (by rw[List.length_map,HNL.out];omega);rw[List.length_map,HNL.out] at hnode;unfold Nd.val at hnode;simp only at hnode;have HB5:Hid (Below w.heap.size w w5):=hid (by rw[HSe.out];exact hn5.bel);clear hb5 hrs hn5 HN4
      go_wp2_with fail
      refine hnode.mono ?_;rintro e w6 ⟨g,c,rfl,hNd,hsf,hgm,hb6⟩;have hgl:=hsf.lt;rw[←HLEN.out] at hsf;have HSF:=hid hsf;clear hsf
      have hNt:NodesAt w6 g ts:=by
       rw[HR.out.eq];rw[List.length_map,HNL.out] at hNd;exact hNd
      rw[←HLEN.out,HNN.out];have hends:=qO HR.out.we (by rw[HNN.out];exact hle) (by rw[HNN.out];exact hN0) g c w6 hNt hgl;rw[HNN.out] at hends;have HB6:=hid (HB5.out.trans (hb6.mono HB5.out.size));have HG6:Hid (w.heap.size≤g):=hid (aC HB5.out.size hgm);have HNT:=hid hNt;clear hNd hNt hb6 hgm hnode c0 c1 c2 c3 c4
      go_wp2_with fail
      refine hends.mono ?_;rintro e w7 ⟨g2,c2,rfl,l2,m2,hE2,hb7⟩;have hgl7:=ap hgl hb7.size;replace HSF:=hid (HSF.out.far hb7);have hN7:=HNT.out.below hb7 hgl;have has:=jX g c g2 c2 N ts E w7 HNN.out (by omega) (by rw[←HNN.out];exact HR.out.we.endsF) hN7 hgl7 l2 hE2 (fun y hy=>(HR.out.we.fp y hy).1);have HB7:=hid (HB6.out.trans (hb7.mono HB6.out.size));have HN7:=hid hN7;have HE7:=hid hE2;clear hb7 hN7 hE2 hends HNT
      go_wp2_with fail
      refine has.mono ?_;rintro e w8 ⟨M2,rfl,lM2,mM2,hS2,hlS2,hb8⟩;have hgl8:=ap hgl7 hb8.size;replace HSF:=hid (HSF.out.far hb8);have l28:=ap l2 hb8.size;have hE8:∀t,t<N→w8.cell? ⟨g2,t,none⟩=some (.int .i64 (E.getD t 0:Nat)):=fun t ht=>(hb8.cell (p:=⟨g2,t,none⟩) l2).trans (HE7.out t ht)
      have hN8:=HN7.out.below hb8 hgl7;obtain ⟨S',hS'⟩:∃S',asF ts E N (List.replicate N 0)=S':=⟨_,rfl⟩
      rw[hS'] at hS2 hlS2;have hna:=e6 g c g2 c2 M2 N ts E S' w8 hgl8 hN8 (by rw[HNN.out];omega) HR.out.we.endsF (by rw[HNN.out];exact hlS2) l28 lM2 (fun t ht=>hE8 t (by rw[HNN.out] at ht;exact ht)) (fun t ht=>hS2 t (by rw[HNN.out] at ht;exact ht));rw[HNAF.out,HNN.out] at hna;have HB8:=hid (HB7.out.trans (hb8.mono HB7.out.size));have HN8:=hid hN8;have HE8:=hid hE8;clear hb8 hN8 hE8 has HN7 HE7 hS2 hS'
      go_wp2_with fail
      refine hna.mono ?_;rintro e w9 ⟨rfl,hb9⟩
      have hh:=gA (some ⟨g2,0,none⟩) g2 c2 N E w9 (by omega) (by rw[HR.out.we.lens.1];exact HNN.out) (fun _=>rfl) (ap l28 hb9.size) (fun t ht=>(hb9.cell (p:=⟨g2,t,none⟩) l28).trans (by
       rw[HE8.out t (by rw[HR.out.we.lens.1,HNN.out] at ht;exact ht),aw,aq ht];rfl))
      have hHG:=HHG.out;generalize br 0 E [] 0=ht at *;have e1:¬(20000:Int)<(N:Int):=by omega
      have e2:¬(257:Int)<(ht:Int):=by omega
      have HB9:=hid (HB8.out.trans (hb9.mono HB8.out.size));have HN9:=hid (HN8.out.below hb9 hgl8);have hgl9:=ap hgl8 hb9.size;replace HSF:=hid (HSF.out.far hb9);clear hb9 hna HN8 HE8 hHG
      go_wp2_with fail
      refine hh.mono ?_;rintro e w10 ⟨rfl,hb10⟩;have HB10:=hid (HB9.out.trans (hb10.mono HB9.out.size));have HN10:=hid (HN9.out.below hb10 hgl9);have hgl10:=ap hgl9 hb10.size;replace HSF:=hid (HSF.out.far hb10);clear hb10 hh HN9
      go_wp2
      go_ret2
      exact ⟨g,c,by rw[HNN.out];rfl,HN10.out,HSF.out,HG6.out,HB10.out⟩
end
end Go.Proofs.YtapdbeaoakcjeaaGreatDoor.Se

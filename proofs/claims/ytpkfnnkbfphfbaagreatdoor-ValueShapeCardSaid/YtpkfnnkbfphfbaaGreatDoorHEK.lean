import Derived.Test.YtpkfnnkbfphfbaaGreatDoorHEF
set_option maxRecDepth 100000
set_option maxHeartbeats 40000000
namespace Go.Proofs.YtpkfnnkbfphfbaaGreatDoor
open Go.RowKit
section
variable {P:Program} {ops:Array Oper} {A:List (List Nat)} {J:(Nat→Value)→(Nat→Bool)→World→Prop} {a0:Act}
def ObJ (P:Program) (ops:Array Oper) (A:List (List Nat)) (J:(Nat→Value)→(Nat→Bool)→World→Prop) (a0:Act) (K:List AK) (k:AK) (o:Oper):Prop:=
 ∀x L w,J x L w→(∀j,j∈A.getD K.length []→L j=true)→L K.length=false→(∀j,K.length∈A.getD j []→L j=false)→
  (Region.wanted o (yielded ops (bm ops a0 x (fun _=>true) K).tmps)=true∧aR P o (bm ops a0 x (fun _=>true) K) w fun u w'=>k.val u=u∧J (dK x K.length u) (lD L K.length) w')∨
  (Region.wanted o (yielded ops (bm ops a0 x (fun _=>true) K).tmps)=false∧k.val undef=undef∧J (dK x K.length undef) (lD L K.length) w)
def yF (P:Program) (ops:Array Oper) (A:List (List Nat)) (J:(Nat→Value)→(Nat→Bool)→World→Prop) (a0:Act):List AK→Prop
 | []=>True
 | k::K=>(∃o,ops[K.length]? =some o∧ObJ P ops A J a0 K k o)∧yF P ops A J a0 K
theorem yG {pre K:List AK} {k:AK} (h:yF P ops A J a0 (pre++k::K)):∃o,ops[K.length]? =some o∧ObJ P ops A J a0 K k o:=by
 induction pre with
 | nil=>exact h.1
 | cons p pre ih=>exact ih h.2
theorem wu {Q:Exit→Act→World→Prop} {K:List AK} (hA:okA ops A=true) (hn:K.length=ops.size) (hO:yF P ops A J a0 K)
    (hE:∀x L w,J x L w→(∀j,j<K.length→L j=true)→Q .normal (bm ops a0 x (fun _=>true) K) w):
    ∀(fuel:Nat) (listed:Array Bool) (x:Nat→Value) (w:World),(∀j,listed.getD j false=true→∀m∈A.getD j [],listed.getD m false=true)→J x (fun j=>listed.getD j false) w→listed.size=ops.size→(List.range ops.size).countP (fun i=>!listed.getD i false)≤fuel→
     wpAny P .any ops Q fuel listed (bm ops a0 x (fun j=>listed.getD j false) K) w:=by
 have hend:∀(listed:Array Bool) (x:Nat→Value) (w:World),J x (fun j=>listed.getD j false) w→(∀i,i<ops.size→listed.getD i false=true)→Q .normal (bm ops a0 x (fun j=>listed.getD j false) K) w:=by
  intro listed x w hJ hall;rw[eH (x':=x) (S':=fun _=>true) (fun _ _=>rfl) (fun j hj=>hall j (by omega))];exact hE x _ w hJ fun j hj=>hall j (by omega)
 intro fuel
 induction fuel with
 | zero=>
   intro listed x w _ hJ _ hc
   have hall:∀i,i<ops.size→listed.getD i false=true:=by
    intro i hi;have:=List.countP_eq_zero.1 (Nat.le_zero.1 hc) i (List.mem_range.2 hi)
    simpa using this
   refine ⟨?_,hend listed x w hJ hall⟩;cases hr:Region.ready .any ops listed with
   | nil=>rfl
   | cons j l=>
     have hj:j∈Region.ready .any ops listed:=by rw[hr];simp
     obtain ⟨h0,o,ho,-⟩:=mem_ready.1 hj;have:=hall j (Array.getElem?_eq_some_iff.1 ho).1;rw[(lL h0).2] at this;cases this
 | succ fuel ih=>
   intro listed x w hcl hJ hsz hc;refine ⟨fun hr=>hend listed x w hJ fun i=>?_,fun i hi=>?_⟩
   · induction i using Nat.strongRecOn with
     | ind i ihi=>
       intro hin;obtain ⟨o,ho⟩:∃o,ops[i]? =some o:=⟨ops[i],Array.getElem?_eq_getElem hin⟩
       cases hl:listed.getD i false with
       | true=>rfl
       | false=>
         exfalso
         have:i∈Region.ready .any ops listed:=mem_ready.2 ⟨by
          have:i<listed.size:=by omega
          simpa [this] using hl,o,ho,fun e he hb=>by
           have hlt:=(eJ hA ho).2.1 e he hb
           exact ihi e.on hlt (by omega)⟩
         rw[hr] at this;cases this
   · obtain ⟨hun,o,ho,haft⟩:=mem_ready.1 hi;obtain ⟨hisz,hunf⟩:=lL hun;have hin:i<ops.size:=(Array.getElem?_eq_some_iff.1 ho).1;obtain ⟨hanc,-,hdst⟩:=eJ hA ho
     have hAl:∀j∈A.getD i [],listed.getD j false=true:=by
      intro j hj;obtain ⟨-,e,he,hb,hor⟩:=hanc j hj;rcases hor with rfl | hor
      · exact haft e he hb
      · exact hcl e.on (haft e he hb) j hor
     obtain ⟨pre,k,K',hKe,hKl,-⟩:=iY (K:=K) (j:=i) (by omega);subst hKl;obtain ⟨o',ho',hob⟩:=yG (hKe ▸ hO);obtain rfl:o=o':=aI (ho.symm.trans ho')
     have hget:∀t,t∈o.looksAt ops→(bm ops a0 x (fun j=>listed.getD j false) K).tmps[t]? =(bm ops a0 x (fun _=>true) K').tmps[t]? :=by
      intro t ht;rw[hKe,show pre++k::K'=(pre++[k])++K' by simp,nU (fun j hj hjl hS oj hoj hd=>?_)]
      · refine nT fun j hj hne oj hoj hd=>?_
        have hlj:listed.getD j false=false:=by
         cases h:listed.getD j false with
         | false=>rfl
         | true=>exact absurd h hne
        rcases (hdst j oj t (by omega) hoj hd).2 ht with h1 | h1
        · rw[hAl j h1] at hlj;cases hlj
        · have:=((eJ hA hoj).1 _ h1).1;omega
      · have hji:j≠K'.length:=fun e=>by rw[e,hunf] at hS;cases hS
        rcases (hdst j oj t hji hoj hd).2 ht with h1 | h1
        · have:=(hanc j h1).1;omega
        · have:=hcl j hS _ h1;rw[hunf] at this;cases this
     have hsel:∀cs b,o.op≠.select cs b:=fun cs b=>Region.noSelect_spec (by simp only[okA,Bool.and_eq_true] at hA;exact hA.1) _ o cs b ho
     have hex:execOp (bm ops a0 x (fun j=>listed.getD j false) K).eval o=execOp (bm ops a0 x (fun _=>true) K').eval o:=execOp_congr o hsel fun y hy=>by
      cases y with
      | tmp t=>
        have:=hget t (List.mem_append_left _ (List.mem_filterMap.2 ⟨.tmp t,by simpa using hy,rfl⟩));show (bm ops a0 x (fun j=>listed.getD j false) K).tmps.getD t undef=(bm ops a0 x (fun _=>true) K').tmps.getD t undef;rw[Array.getD_eq_getD_getElem?,Array.getD_eq_getD_getElem? (xs:=(bm ops a0 x (fun _=>true) K').tmps),this]
      | _=>rfl
     have hwant:Region.wanted o (yielded ops (bm ops a0 x (fun j=>listed.getD j false) K).tmps)=Region.wanted o (yielded ops (bm ops a0 x (fun _=>true) K').tmps):=by
      unfold Region.wanted;cases hg:o.guard with
      | none=>rfl
      | some gw=>
        obtain ⟨g,want⟩:=gw
        have hy:yielded ops (bm ops a0 x (fun j=>listed.getD j false) K).tmps g=yielded ops (bm ops a0 x (fun _=>true) K').tmps g:=by
         unfold yielded;cases ht:(ops[g]?).bind (·.dst) with
         | none=>rfl
         | some t=>
           have:=hget t (by simp[Oper.looksAt,hg,ht]);simp only[Option.bind_some,this]
        simp only[hy]
     have hcnt:(List.range ops.size).countP (fun j=>!(listed.setIfInBounds K'.length true).getD j false)≤fuel:=by
      have:=nW (l:=List.range ops.size) (p:=fun j=>!listed.getD j false) (q:=fun j=>!(listed.setIfInBounds K'.length true).getD j false) (fun j hj=>by
       rw[ct hisz] at hj
       split at hj
       · cases hj
       · exact hj) (i:=K'.length) (List.mem_range.2 hin) (by rw[hunf];rfl) (by rw[ct hisz,aF rfl];rfl)
      omega
     have hnext:∀u w',k.val u=u→J (dK x K'.length u) (lD (fun j=>listed.getD j false) K'.length) w'→
         wpAny P .any ops Q fuel (listed.setIfInBounds K'.length true) ((bm ops a0 x (fun j=>listed.getD j false) K).put o.dst u) w':=by
      intro u w' hv hj'
      have hfr:(bm ops a0 x (fun j=>listed.getD j false) K).put o.dst u=bm ops a0 (dK x K'.length u) (fun j=>(listed.setIfInBounds K'.length true).getD j false) K:=by
       rw[hKe,jQ ho hunf hv (fun j oj hj hoj d hd=>(hdst j oj d hj hoj hd).1)];refine eH (fun _ _=>rfl) fun j _=>?_
       rw[ct hisz];rfl
      rw[hfr];refine ih _ _ _ (fun j hj m hm=>?_) ?_ (by simpa using hsz) hcnt
      · rw[ct hisz] at hj ⊢
        split
        · rfl
        · split at hj
          · rename_i e;subst e;exact hAl m hm
          · exact hcl j hj m hm
      · have e:(fun j=>(listed.setIfInBounds K'.length true).getD j false)=lD (fun j=>listed.getD j false) K'.length:=by
          funext j
          rw[ct hisz];rfl
        rw[e];exact hj'
     unfold wpOp;rw[ho]
     dsimp only
     rcases hob x _ w hJ hAl hunf (fun j hj=>by
      cases h:listed.getD j false with
      | false=>rfl
      | true=>rw[hcl j h _ hj] at hunf;cases hunf) with ⟨hw,hadd⟩ | ⟨hw,hk,hj'⟩
     · rw[hwant,aF hw];exact .inl (qE hadd hex fun u w' ⟨h1,h2⟩=>hnext u w' h1 h2)
     · rw[hwant,aB (by rw[hw];exact Bool.false_ne_true)];exact hnext undef w hk hj'
structure ShJ (P:Program) (ops:Array Oper) (A:List (List Nat)) (J:(Nat→Value)→(Nat→Bool)→World→Prop) (a0:Act) (id:Nat) (Q:Exit→Act→World→Prop) (w0:World) (K:List AK) (fr:(Nat→Value)→Act) (rest:List Oper):Prop where
 go:yF P ops A J a0 K→(∀x,fr x=bm ops a0 x (fun _=>true) K)→ops.toList.drop K.length=rest→(Code.region id ops true).wp P Q a0 w0
theorem cE {id:Nat} {Q:Exit→Act→World→Prop} {w:World} {l:List Oper} (A:List (List Nat)) (J:(Nat→Value)→(Nat→Bool)→World→Prop) (h:ShJ P l.toArray A J a0 id Q w [] (fun _=>a0) l):(Code.region id l.toArray true).wp P Q a0 w:=
 h.go trivial (fun _=>rfl) (by simp)
variable {id:Nat} {Q:Exit→Act→World→Prop} {w0:World} {K:List AK} {fr:(Nat→Value)→Act} {rest:List Oper} {o:Oper}
theorem ww (k:AK) (hob:∀x L w,J x L w→(∀j,j∈A.getD K.length []→L j=true)→L K.length=false→(∀j,K.length∈A.getD j []→L j=false)→
      (Region.wanted o (yielded ops (fr x).tmps)=true∧aR P o (fr x) w fun u w'=>k.val u=u∧J (dK x K.length u) (lD L K.length) w')∨(Region.wanted o (yielded ops (fr x).tmps)=false∧k.val undef=undef∧J (dK x K.length undef) (lD L K.length) w))
    (h:ShJ P ops A J a0 id Q w0 (k::K) (fun x=>(fr x).put o.dst (k.val (x K.length))) rest):ShJ P ops A J a0 id Q w0 K fr (o::rest):=by
 refine ⟨fun hO hfr hd=>?_⟩;obtain ⟨h1,h2⟩:=nX hd;have h1':ops[K.length]? =some o:=by simpa using h1
 refine h.go ⟨⟨o,h1',fun x L w hJ h3 h4 h5=>?_⟩,hO⟩ (fun x=>?_) (by rw[aw];exact h2)
 · have:=hob x L w hJ h3 h4 h5;rwa [hfr x] at this
 · rw[hfr x,bm,h1'];rfl
theorem bf {v:Value} (hw:∀x,Region.wanted o (yielded ops (fr x).tmps)=true)
    (hv:∀x L w R,J x L w→(∀j,j∈A.getD K.length []→L j=true)→L K.length=false→(∀j,K.length∈A.getD j []→L j=false)→(∀w',J (dK x K.length v) (lD L K.length) w'→R v w')→aR P o (fr x) w R)
    (h:ShJ P ops A J a0 id Q w0 (.con 0 v::K) (fun x=>(fr x).put o.dst v) rest):ShJ P ops A J a0 id Q w0 K fr (o::rest):=
 ww (.con 0 v) (fun x L w hJ h1 h2 h3=>.inl ⟨hw x,hv x L w _ hJ h1 h2 h3 fun _ hj=>⟨rfl,hj⟩⟩) h
theorem bI (hw:∀x,Region.wanted o (yielded ops (fr x).tmps)=true)
    (hv:∀x L w R,J x L w→(∀j,j∈A.getD K.length []→L j=true)→L K.length=false→(∀j,K.length∈A.getD j []→L j=false)→(∀u w',J (dK x K.length u) (lD L K.length) w'→R u w')→aR P o (fr x) w R)
    (h:ShJ P ops A J a0 id Q w0 (.fre 0 (fun _=>True)::K) (fun x=>(fr x).put o.dst (x K.length)) rest):ShJ P ops A J a0 id Q w0 K fr (o::rest):=
 ww (.fre 0 (fun _=>True)) (fun x L w hJ h1 h2 h3=>.inl ⟨hw x,hv x L w _ hJ h1 h2 h3 fun _ _ hj=>⟨rfl,hj⟩⟩) h
theorem ia (hm:P.follows .mixedOrders=true) (hA:okA ops A=true) (hC:J (fun _=>undef) (fun _=>false) w0.drew)
    (hE:∀x L w,J x L w→(∀j,j<K.length→L j=true)→Q .normal (fr x) w):ShJ P ops A J a0 id Q w0 K fr []:=by
 refine ⟨fun hO hfr hd=>?_⟩
 have hlen:ops.size≤K.length:=by
  have:=congrArg List.length hd
  simp at this;omega
 have hle:K.length≤ops.size:=by
  cases K with
  | nil=>exact aM _
  | cons k K=>
    obtain ⟨⟨o,ho,-⟩,-⟩:=hO;rw[aw];exact (Array.getElem?_eq_some_iff.1 ho).1
 have hf:∀j,(Array.replicate ops.size false).getD j false=false:=fun j=>by
  simp[Array.getElem?_replicate]
  split <;> rfl
 refine wp_region_any hm ?_
 have:=wu (P:=P) (ops:=ops) (A:=A) (J:=J) (a0:=a0) (Q:=Q) (K:=K) hA (by omega) hO (fun x L w hJ hl=>by rw[←hfr x];exact hE x L w hJ hl)
  ops.size (Array.replicate ops.size false) (fun _=>undef) { w0 with drawn:=w0.drawn+1 } (fun j hj=>by rw[hf] at hj;cases hj) (by
   rw[show (fun j=>(Array.replicate ops.size false).getD j false)=fun _=>false from funext hf]
   exact hC) (by simp) (by
   have:=List.countP_le_length (l:=List.range ops.size) (p:=fun i=>!(Array.replicate ops.size false).getD i false)
   simpa using this)
 have e:bm ops a0 (fun _=>undef) (fun j=>(Array.replicate ops.size false).getD j false) K=a0:=by
  clear this hfr hd hO hE hlen hle
  induction K with
  | nil=>rfl
  | cons k K ih=>
    unfold bm
    split
    · rw[hf];exact ih
    · exact ih
 rwa [e] at this
end
end Go.Proofs.YtpkfnnkbfphfbaaGreatDoor
namespace Go.Proofs.YtpkfnnkbfphfbaaGreatDoor.Se
open Go.RowKit Nmx Go.Proofs.Tryz
theorem wy:(prog.info? 9).map (fun i=>(i.zero,i.size,i.bytes))=some (some (.string ⟨#[]⟩),1,16):=by kernel_rfl
theorem dR {P:Program} {o:Oper} {a:Act} {w:World} {R:Value→World→Prop} (s x:Operand) (t:TypeId)
    (ho:o.op=.call { callee:=.builtin .append,args:=#[s,x],argTypes:=#[t,t] })
    (base:Nat) (e:TypeId) (i:TypeInfo) (z:Value) (size bytes:Nat) (ht:P.underlying t=some (.slice e)) (hi:P.info? e=some i) (hz:i.zero=some z)
    (hsize:i.size=size) (hby:i.bytes=bytes) (hzs:z.cells.size=size) (hsz:0<size)
    (v:Value) (n:Nat) (xs:List Value) (hs:a.eval s=v) (hown:w.ownsRow base e size v n xs)
    (ad:Addr) (m c:Nat) (news:List Value) (hx:a.eval x=.slice (some ad) m c) (hl:news.length=m*size) (hnews:∀j u,news[j]? =some u→w.cell? (ad.add j)=some u) (h1:∀u∈news,u.oneCell'=true)
    (h63:n+m≤maxLen) (hbytes:(n+m)*bytes≤140737488355328) (hbase:base≤w.heap.size)
    (h:∀v' w',w'.ownsRow base e size v' (n+m) (xs++news)→w.grownBy w' v.ownBlock→(v'.ownBlock=v.ownBlock∨v'.ownBlock=some w.heap.size)→R v' w'):aR P o a w R:=by
 obtain ⟨v',w',hr,h2,h3,-,h5⟩:=run_append_own_at (P:=P) w base t o.type e i z size bytes ht hi hz hsize hby hzs hsz v n xs hown ad m c news hl hnews h1 h63 hbytes hbase;unfold aR execOp;simp only[ho,resolve,invoke,builtin,Sem.run_bind,Sem.run_pure,Result.andThen_ok,List.map_toArray,List.map_cons,List.map_nil,hs,hx,hr];exact h v' w' h2 h3 h5
theorem SRow.snoc {S:Nat} {w:World} {u:Value} {ts:List ByteArray} {t:ByteArray} (h:w.ownsRow S 9 1 u (ts.length+1) (ts.map Value.string++[.string t])):SRow S w u (ts++[t]):=by
 show World.ownsRow _ _ _ _ _ _ _;rw[aE,List.map_append];exact h
structure RJ (O:Nat) (w0:World) (td:ByteArray) (ko uo:Value) (ts us:List ByteArray) (tk tv:ByteArray) (l3 l4 l8 l9 l11 l13:Bool) (x3 x4 x8 x9:Value) (W:World):Prop where
 bel:Below O w0 W
 box:W.heap[O]? =some (.cells #[.int .i64 4,.bool false,.string td,bif l11 then x4 else ko,bif l13 then x9 else uo] 24 (0,0))
 kr:SRow (O+1) W (bif l4 then x4 else ko) (bif l4 then ts++[tk] else ts)
 ur:SRow (O+1) W (bif l9 then x9 else uo) (bif l9 then us++[tv] else us)
 ne:∀g,(bif l4 then x4 else ko).ownBlock=some g→(bif l9 then x9 else uo).ownBlock≠some g
 s3:l3=true→l4=false→∃g,x3=.slice (some ⟨g,0,none⟩) 1 1∧W.heap[g]? =some (.cells #[.string tk] 9 (0,0))∧(bif l9 then x9 else uo).ownBlock≠some g
 s8:l8=true→l9=false→∃g,x8=.slice (some ⟨g,0,none⟩) 1 1∧W.heap[g]? =some (.cells #[.string tv] 9 (0,0))∧(bif l4 then x4 else ko).ownBlock≠some g
section
variable {O:Nat} {w0:World} {td:ByteArray} {ko uo:Value} {ts us:List ByteArray} {tk tv:ByteArray} {l3 l4 l8 l9 l11 l13:Bool} {x3 x4 x8 x9:Value} {W:World}
theorem RJ.lt (h:RJ O w0 td ko uo ts us tk tv l3 l4 l8 l9 l11 l13 x3 x4 x8 x9 W):O<W.heap.size:=ar h.box
theorem RJ.drew (h:RJ O w0 td ko uo ts us tk tv l3 l4 l8 l9 l11 l13 x3 x4 x8 x9 W):RJ O w0 td ko uo ts us tk tv l3 l4 l8 l9 l11 l13 x3 x4 x8 x9 W.drew:=
 ⟨h.bel.drew,h.box,aX h.kr fun _ _=>rfl,aX h.ur fun _ _=>rfl,h.ne,h.s3,h.s8⟩
theorem RJ.build3 (h:RJ O w0 td ko uo ts us tk tv l3 l4 l8 l9 l11 l13 x3 x4 x8 x9 W):RJ O w0 td ko uo ts us tk tv true l4 l8 l9 l11 l13 (.slice (some ⟨W.heap.size,0,none⟩) 1 1) x4 x8 x9 (W.alloc (.cells #[.string tk] 9)):=by
 have hb:=aO W (.cells #[.string tk] 9);exact ⟨h.bel.trans (hb.mono (aL h.lt)),(hb.block _ h.lt).trans h.box,h.kr.far hb,h.ur.far hb,h.ne,fun _ _=>⟨_,rfl,aq W _,fun e=>Nat.lt_irrefl _ (h.ur.lt _ e).2⟩,fun e e'=>let ⟨g,h1,h2,h3⟩:=h.s8 e e';⟨g,h1,(hb.block _ (ar h2)).trans h2,h3⟩⟩
theorem RJ.build8 (h:RJ O w0 td ko uo ts us tk tv l3 l4 l8 l9 l11 l13 x3 x4 x8 x9 W):RJ O w0 td ko uo ts us tk tv l3 l4 true l9 l11 l13 x3 x4 (.slice (some ⟨W.heap.size,0,none⟩) 1 1) x9 (W.alloc (.cells #[.string tv] 9)):=by
 have hb:=aO W (.cells #[.string tv] 9);exact ⟨h.bel.trans (hb.mono (aL h.lt)),(hb.block _ h.lt).trans h.box,h.kr.far hb,h.ur.far hb,h.ne,fun e e'=>let ⟨g,h1,h2,h3⟩:=h.s3 e e';⟨g,h1,(hb.block _ (ar h2)).trans h2,h3⟩,fun _ _=>⟨_,rfl,aq W _,fun e=>Nat.lt_irrefl _ (h.kr.lt _ e).2⟩⟩
theorem RJ.app4 {v':Value} {w':World} (h:RJ O w0 td ko uo ts us tk tv l3 false l8 l9 false l13 x3 x4 x8 x9 W) (hown:w'.ownsRow (O+1) 9 1 v' (ts.length+1) (ts.map Value.string++[.string tk])) (hg:W.grownBy w' ko.ownBlock) (hat:v'.ownBlock=ko.ownBlock∨v'.ownBlock=some W.heap.size):
    RJ O w0 td ko uo ts us tk tv l3 true l8 l9 false l13 x3 v' x8 x9 w' where
 bel:=h.bel.grown hg (aL h.lt) fun k hk=>Nat.le_of_succ_le (h.kr.lt k hk).1
 box:=(hg.block O h.lt fun e=>by have:=(h.kr.lt O e.symm).1;omega).trans h.box
 kr:=SRow.snoc hown
 ur:=aX h.ur fun g e=>hg.block g (h.ur.lt g e).2 fun e'=>h.ne g e'.symm e
 ne:=fun g e e'=>by
  rcases hat with q | q
  · exact h.ne g (q.symm.trans e) e'
  · obtain rfl:=aI (q.symm.trans e);exact Nat.lt_irrefl _ (h.ur.lt _ e').2
 s3:=fun _ e=>by cases e
 s8:=fun e e'=>let ⟨g,h1,h2,h3⟩:=h.s8 e e';⟨g,h1,(hg.block _ (ar h2) fun q=>h3 q.symm).trans h2,fun q=>by
  rcases hat with q' | q'
  · exact h3 (q'.symm.trans q)
  · have hq:some W.heap.size=some g:=q'.symm.trans q;obtain rfl:=aI hq
    exact Nat.lt_irrefl _ (ar h2)⟩
theorem RJ.app9 {v':Value} {w':World} (h:RJ O w0 td ko uo ts us tk tv l3 l4 l8 false l11 false x3 x4 x8 x9 W) (hown:w'.ownsRow (O+1) 9 1 v' (us.length+1) (us.map Value.string++[.string tv])) (hg:W.grownBy w' uo.ownBlock) (hat:v'.ownBlock=uo.ownBlock∨v'.ownBlock=some W.heap.size):
    RJ O w0 td ko uo ts us tk tv l3 l4 l8 true l11 false x3 x4 x8 v' w' where
 bel:=h.bel.grown hg (aL h.lt) fun k hk=>Nat.le_of_succ_le (h.ur.lt k hk).1
 box:=(hg.block O h.lt fun e=>by have:=(h.ur.lt O e.symm).1;omega).trans h.box
 kr:=aX h.kr fun g e=>hg.block g (h.kr.lt g e).2 fun e'=>h.ne g e e'.symm
 ur:=SRow.snoc hown
 ne:=fun g e e'=>by
  rcases hat with q | q
  · exact h.ne g e (q.symm.trans e')
  · have hq:some W.heap.size=some g:=q.symm.trans e';obtain rfl:=aI hq;exact Nat.lt_irrefl _ (h.kr.lt _ e).2
 s3:=fun e e'=>let ⟨g,h1,h2,h3⟩:=h.s3 e e';⟨g,h1,(hg.block _ (ar h2) fun q=>h3 q.symm).trans h2,fun q=>by
  rcases hat with q' | q'
  · exact h3 (q'.symm.trans q)
  · have hq:some W.heap.size=some g:=q'.symm.trans q;obtain rfl:=aI hq
    exact Nat.lt_irrefl _ (ar h2)⟩
 s8:=fun _ e=>by cases e
theorem RJ.setO (h:RJ O w0 td ko uo ts us tk tv l3 l4 l8 l9 l11 l13 x3 x4 x8 x9 W) (j:Nat) (u:Value) (l11' l13':Bool) (hb:(W.setCell ⟨O,j,none⟩ u).heap[O]? =some (.cells #[.int .i64 4,.bool false,.string td,bif l11' then x4 else ko,bif l13' then x9 else uo] 24 (0,0))):
    RJ O w0 td ko uo ts us tk tv l3 l4 l8 l9 l11' l13' x3 x4 x8 x9 (W.setCell ⟨O,j,none⟩ u) where
 bel:=h.bel.setCell (p:=⟨O,j,none⟩) (aj _) _
 box:=hb
 kr:=aX h.kr fun g e=>aG _ _ _ _ (by have:=(h.kr.lt g e).1;show g≠O;omega)
 ur:=aX h.ur fun g e=>aG _ _ _ _ (by have:=(h.ur.lt g e).1;show g≠O;omega)
 ne:=h.ne
 s3:=fun e e'=>let ⟨g,h1,h2,h3⟩:=h.s3 e e';⟨g,h1,(aG _ _ _ _ (fun q=>by
  have q':g=O:=q;subst q';have:=h.box.symm.trans h2;injection aI this with _ e2 _
  exact absurd e2 (by decide))).trans h2,h3⟩
 s8:=fun e e'=>let ⟨g,h1,h2,h3⟩:=h.s8 e e';⟨g,h1,(aG _ _ _ _ (fun q=>by
  have q':g=O:=q;subst q';have:=h.box.symm.trans h2;injection aI this with _ e2 _
  exact absurd e2 (by decide))).trans h2,h3⟩
theorem RJ.store3 {v:Value} (e:x4=v) (h:RJ O w0 td ko uo ts us tk tv l3 l4 l8 l9 l11 l13 x3 x4 x8 x9 W):RJ O w0 td ko uo ts us tk tv l3 l4 l8 l9 true l13 x3 x4 x8 x9 (W.setCell ⟨O,3,none⟩ v):=by
 subst e;exact h.setO 3 x4 true l13 (by have:=heap_set h.box 3 x4;exact this)
theorem RJ.store4 {v:Value} (e:x9=v) (h:RJ O w0 td ko uo ts us tk tv l3 l4 l8 l9 l11 l13 x3 x4 x8 x9 W):RJ O w0 td ko uo ts us tk tv l3 l4 l8 l9 l11 true x3 x4 x8 x9 (W.setCell ⟨O,4,none⟩ v):=by
 subst e;exact h.setO 4 x9 l11 true (by have:=heap_set h.box 4 x9;exact this)
end
def iC (z:Int):Value:=.agg #[.int .i64 z,.bool false,.slice none 0 0]
def rC (z:Int):Value:=.agg #[.int .i64 z,.bool false,.slice none 0 0,.int .i64 0,.bool false,.slice none 0 0]
theorem iv_small {w:World} {v:Value} {z:Int} (h:IV w v z) (hz:aV z):v=iC z:=by
 rcases h with ⟨h,-⟩ | ⟨b,g,off,cap,l,-,-,hB,he⟩
 · exact h
 · exfalso
   have h2:=hB.2.1;have h3:=hB.pos;unfold sgn at he;unfold aV at *
   split at he <;> omega
theorem wB {w:World} {z:Int} (hz:aV z):IV w (iC z) z:=.inl ⟨rfl,hz⟩
theorem qh {w:World} {v:Value} {z:Int} (h:RV w v (z:Rat)) (hz:aV z):v=rC z:=by
 obtain ⟨s1,b1,a1,n1,c1,s2,b2,a2,n2,c2,rfl,h1,h2⟩:=h;rw[Rat.num_intCast] at h1
 replace h2:IV w (.agg #[.int .i64 s2,.bool b2,.slice a2 n2 c2]) 0:=by
  unfold fE at h2;rw[Rat.den_intCast] at h2;exact h2
 have e1:=iv_small h1 hz;have e2:=iv_small h2 (by unfold aV;decide);unfold iC at e1 e2;injection e1 with e1;injection e2 with e2
 simp at e1 e2
 obtain ⟨rfl,rfl,rfl,rfl,rfl⟩:=e1;obtain ⟨rfl,rfl,rfl,rfl,rfl⟩:=e2;rfl
theorem Aa {w:World} {z:Int} (hz:aV z):RV w (rC z) (z:Rat):=⟨z,false,none,0,0,0,false,none,0,0,rfl,by rw[Rat.num_intCast];exact wB hz,by unfold fE;rw[Rat.den_intCast];exact wB (z:=0) (by unfold aV;decide)⟩
theorem Ab {z:Int} (hz:aV z) (W:World) (h:Env W):Calls prog 94 #[.string (TI z)] W fun e w'=>e=.returned (rC z)∧Below W.heap.size W w':=by
 refine (Bp (d:=50) (DS.int (by unfold aV at hz;omega)) (by decide) W h).mono ?_;rintro e w' ⟨v,rfl,hv,hb⟩;exact ⟨by rw[qh hv hz],hb⟩
theorem A8 {z:Int} (hz:aV z) (W:World):Calls prog 142 #[rC z] W fun e w'=>e=.returned (iC z)∧Below W.heap.size W w':=by
 refine (mC _ (z:Rat) W (Aa hz)).mono ?_;rintro e w' ⟨v,rfl,hv,hb⟩;rw[Rat.num_intCast] at hv;exact ⟨by rw[iv_small hv hz],hb⟩
theorem yH {a b:Int} (ha:aV a) (hb:aV b) (h0:b≠0) (hq:aV (a / b)) (hr:aV (a % b)) (W:World):Calls prog 127 #[iC a,iC b] W fun e w'=>e=.returned (.tuple #[iC (a / b),iC (a % b)])∧Below W.heap.size W w':=by
 refine (oo W ha hb h0).mono ?_;rintro e w' ⟨v1,v2,rfl,h1,h2,hbb⟩;exact ⟨by rw[iv_small h1 hq,iv_small h2 hr],hbb⟩
theorem wC {z:Int} (hz:aV z) (W:World):Calls prog 144 #[iC z] W fun e w'=>e=.returned (rC z)∧Below W.heap.size W w':=by
 refine (fH _ z W (wB hz)).mono ?_;rintro e w' ⟨v,rfl,hv,hb⟩;exact ⟨by rw[qh hv hz],hb⟩
theorem yI {z:Int} (hz:aV z) (W:World) (h:Env W):Calls prog 97 #[rC z] W fun e w'=>e=.returned (.string (TI z))∧Below W.heap.size W w':=by
 have hl:=(DS.int (d:=50) (z:=z) (by unfold aV at hz;omega)).parts;exact eE _ (z:Rat) W (Aa hz) h (by omega)
def cL (s z:Int):List Value:=[.int .i64 s,.bool false,.int .i64 z,.bool false,.slice none 0 0,.int .i64 0,.bool false,.slice none 0 0,.int .i64 0,.bool false,.string ⟨#[]⟩,.slice none 0 0,.slice none 0 0]
def cC (s z:Int):Value:=.agg (cL s z).toArray
theorem jK {fn:Func} {t:Tmp} {a:Act} {w2:World} {R:Nat} {s z:Int} {post:Ending→World→Prop} (hres:fn.results=#[.cell t 95]) (hd:a.defers=[]) (ht:a.tmps.getD t undef=.pointer (some ⟨R,0,none⟩))
    (hR:w2.heap[R]? =some (.cells (cL s z).toArray 95 (0,0))) (h:post (.returned (cC s z)) w2):bodyPost prog fn post .ret a w2:=by
 unfold cC cL at *;have k0:=aa hR 0;have k1:=aa hR 1;have k2:=aa hR 2;have k3:=aa hR 3;have k4:=aa hR 4;have k5:=aa hR 5;have k6:=aa hR 6;have k7:=aa hR 7;have k8:=aa hR 8;have k9:=aa hR 9;have k10:=aa hR 10;have k11:=aa hR 11;have k12:=aa hR 12
 simp at k0 k1 k2 k3 k4 k5 k6 k7 k8 k9 k10 k11 k12
 refine bodyPost_ret (v:=.agg #[.int .i64 s,.bool false,.int .i64 z,.bool false,.slice none 0 0,.int .i64 0,.bool false,.slice none 0 0,.int .i64 0,.bool false,.string ⟨#[]⟩,.slice none 0 0,.slice none 0 0]) ?_ hd h;have ht':a.tmps[t]?.getD undef=.pointer (some ⟨R,0,none⟩):=by simpa using ht
 simp[results,hres,go_sem,ht',k0,k1,k2,k3,k4,k5,k6,k7,k8,k9,k10,k11,k12]
theorem wD {z:Int} (w:World):Calls prog 143 #[rC z] w fun e w'=>e=.returned (cC 2 z)∧Below w.heap.size w w':=by
 unfold rC cC cL
 go_enter func143,ntmps143
 go_wp2
 have hx:=aq (w.alloc (.cells #[.int .i64 z,.bool false,.slice none 0 0,.int .i64 0,.bool false,.slice none 0 0] 75)) (.cells (cL 2 z).toArray 95);rw[show (w.alloc (.cells #[.int .i64 z,.bool false,.slice none 0 0,.int .i64 0,.bool false,.slice none 0 0] 75)).heap.size=w.heap.size+1 by simp] at hx;exact jK (s:=2) (z:=z) rfl rfl rfl hx ⟨rfl,(aO w _).trans ((aO _ _).mono (aO w _).size)⟩
structure EV (E g c:Nat) (ts:List Nd) (p:Int) (m1 m2:Value) (W:World):Prop where
 ev:W.heap[E]? =some (.cells #[.slice (some ⟨g,0,none⟩) ts.length c,.int .i64 p,m1,m2,.int .i64 0] 84 (0,0))
 nd:NodesAt W g ts
 gl:g<W.heap.size
 ne:E≠g
theorem EV.far {E g c:Nat} {ts:List Nd} {p:Int} {m1 m2:Value} {W W':World} (h:EV E g c ts p m1 m2 W) (hb:Below W.heap.size W W'):EV E g c ts p m1 m2 W':=
 ⟨(hb.block _ (ar h.ev)).trans h.ev,h.nd.below hb h.gl,aC h.gl hb.size,h.ne⟩
theorem EV.blocks {E g c:Nat} {ts:List Nd} {p:Int} {m1 m2:Value} {W W':World} (h:EV E g c ts p m1 m2 W) (hE:W'.heap[E]? =W.heap[E]?) (hg:W'.heap[g]? =W.heap[g]?):EV E g c ts p m1 m2 W':=
 ⟨hE.trans h.ev,fun i x hx j hj=>(World.cell?_of_block (a:=⟨g,i*5+j,none⟩) hg).trans (h.nd i x hx j hj),by
   have:=h.gl;rcases Nat.lt_or_ge g W'.heap.size with h' | h'
   · exact h'
   · rw[Array.getElem?_eq_none h'] at hg;have:=Array.getElem?_eq_none_iff.1 hg.symm
     omega,h.ne⟩
theorem m9 {B:Nat} {t:TypeId} {W:World} {a0 a1 a2 a3 a4:Value} (h:W.heap[B]? =some (.cells #[a0,a1,a2,a3,a4] t (0,0))) (v0 v1 v2 v3 v4:Value):
    (((((W.setCell ⟨B,0,none⟩ v0).setCell ⟨B,1,none⟩ v1).setCell ⟨B,2,none⟩ v2).setCell ⟨B,3,none⟩ v3).setCell ⟨B,4,none⟩ v4).heap[B]? =some (.cells #[v0,v1,v2,v3,v4] t (0,0))∧
    (∀b,b≠B→(((((W.setCell ⟨B,0,none⟩ v0).setCell ⟨B,1,none⟩ v1).setCell ⟨B,2,none⟩ v2).setCell ⟨B,3,none⟩ v3).setCell ⟨B,4,none⟩ v4).heap[b]? =W.heap[b]?)∧
    (∀{S w},Below S w W→S≤B→Below S w (((((W.setCell ⟨B,0,none⟩ v0).setCell ⟨B,1,none⟩ v1).setCell ⟨B,2,none⟩ v2).setCell ⟨B,3,none⟩ v3).setCell ⟨B,4,none⟩ v4)):=
 ⟨heap_set (heap_set (heap_set (heap_set (heap_set h 0 _) 1 _) 2 _) 3 _) 4 _,fun _ hb=>(aG _ _ _ _ hb).trans ((aG _ _ _ _ hb).trans ((aG _ _ _ _ hb).trans ((aG _ _ _ _ hb).trans (aG _ _ _ _ hb)))),fun hbl hS=>((((hbl.setCell hS _).setCell hS _).setCell hS _).setCell hS _).setCell hS _⟩
end Go.Proofs.YtpkfnnkbfphfbaaGreatDoor.Se

import Derived.Test.YtpkfnnkbfphfbaaGreatDoorHNG
set_option maxRecDepth 100000
set_option maxHeartbeats 40000000
open Go.Lib (hid)
namespace Go.Proofs.YtpkfnnkbfphfbaaGreatDoor
open Go.RowKit Nmx Go.Proofs.Tryz
theorem size_data (s:ByteArray):s.data.toList.length=s.size:=by rw[Array.length_toList];rfl
theorem ex_data (s:ByteArray) (a b:Nat):(s.extract a b).data.toList=(s.data.toList.drop a).take (b-a):=by
 rw[ByteArray.data_extract,Array.toList_extract]
theorem isE (s:ByteArray):s.toList.isEmpty=decide (s.size=0):=by
 rw[ByteArray.toList_eq,←size_data];cases s.data.toList <;> simp
theorem mA {r:ByteArray} {n:Nat} (hn:0<n) (h9:n≤9) (hr:n≤r.size) (hd:r.data.toList.all isD=true):
    Lib.parseUintB 32 (r.extract 0 n).data.toList=.ok (dv (r.data.toList.take n))∧dv (r.data.toList.take n)<1000000000∧(r.extract n r.size).data.toList=r.data.toList.drop n∧(r.extract n r.size).size=r.size-n∧(r.extract 0 n).size≤9∧
    dv r.data.toList=dv (r.data.toList.take n)*10 ^ (r.size-n)+dv (r.data.toList.drop n)∧(r.data.toList.drop n).all isD=true:=by
 have hl:=size_data r;have e:(r.extract 0 n).data.toList=r.data.toList.take n:=by rw[ex_data];simp
 have ht:(r.data.toList.take n).all isD=true:=List.all_eq_true.2 fun x hx=>List.all_eq_true.1 hd x (List.mem_of_mem_take hx)
 have hdr:(r.data.toList.drop n).all isD=true:=List.all_eq_true.2 fun x hx=>List.all_eq_true.1 hd x (List.mem_of_mem_drop hx)
 have hlen:(r.data.toList.take n).length=n:=by rw[List.length_take];omega
 have hp:10 ^ n≤10 ^ 9:=Nat.pow_le_pow_right (by omega) h9;have hlt:=ir _ ht;rw[hlen] at hlt;refine ⟨by rw[e];exact ot 32 _ ht (fun h=>by rw[h] at hlen;simp at hlen;omega) (by omega) (by rw[hlen];omega),by omega,?_,by rw[ByteArray.size_extract];omega,by rw[ByteArray.size_extract];omega,?_,hdr⟩
 · rw[ex_data,aT (by rw[List.length_drop];omega)]
 · have:=i6 (r.data.toList.take n) (r.data.toList.drop n);rw[List.take_append_drop,List.length_drop,hl] at this;exact this
theorem lq {w w1:World} {b:Nat} {v:Value} {l:List Nat} (h:w.ownsRow b 207 1 v l.length (bT l)) (hb:Below w.heap.size w w1):w1.ownsRow b 207 1 v l.length (bT l):=by
 obtain ⟨hx,h | ⟨g,cap,cur,hv,hg,hh,r⟩⟩:=h
 · exact ⟨hx,.inl h⟩
 · exact ⟨hx,.inr ⟨g,cap,cur,hv,hg,(hb.block g (ar hh)).trans hh,r⟩⟩
structure PW (s:ByteArray) (B:Nat) (w0 wr:World) (r:ByteArray) (fb:Bool) (v:Value) (l:List Nat):Prop where
 own:wr.ownsRow B 207 1 v l.length (bT l)
 ws:Ws l
 bel:Below B w0 wr
 nine:fb=true∨r.size % 9=0
 dig:r.data.toList.all isD=true
 val:wv l*10 ^ r.size+dv r.data.toList=dv s.data.toList
 few:l.length+r.size≤s.size
 emp:fb=true→l=[]
theorem PW.next {s:ByteArray} {B:Nat} {w0 wr wr':World} {r:ByteArray} {fb:Bool} {v v':Value} {l l':List Nat} (h:PW s B w0 wr r fb v l) {n:Nat} (hn:0<n) (h9:n≤9) (hr:n≤r.size) (hmod:(r.size-n) % 9=0)
    (hown:wr'.ownsRow B 207 1 v' l'.length (bT l')) (hw:Ws l') (hb:Below B w0 wr') (hv:wv l'=wv l*10 ^ n+dv (r.data.toList.take n)) (hl:l'.length≤l.length+1):PW s B w0 wr' (r.extract n r.size) false v' l':=by
 obtain ⟨c1,c2,c3,c4,c5,c6,c7⟩:=mA hn h9 hr h.dig;refine ⟨hown,hw,hb,.inr (by rw[c4];exact hmod),by rw[c3];exact c7,?_,by have:=h.few;rw[c4];omega,(fun h=>by cases h)⟩;rw[c4,c3,hv,←h.val,c6,Nat.add_mul,Nat.mul_assoc,←Nat.pow_add,show n+(r.size-n)=r.size by omega]
 omega
def zh (x:Nat) (m:Nat) (w:World) (e:Ending) (w':World):Prop:=∃v l,e=.returned v∧WV w' v l∧wv l=x∧l.length≤m∧Below w.heap.size w w'
theorem iD (s:ByteArray) (w:World) (hs:s.size≤1000000) (hd:s.data.toList.all isD=true):
    Calls prog 175 #[.string s] w (zh (dv s.data.toList) s.size w):=by
 obtain ⟨i0,hi,hz0,hz1,hz2⟩:=info_parts lP;have HP0:Hid (PW s w.heap.size w w s true (.slice none 0 0) []):=hid ⟨World.ownsRow_nil _ _ _ _,Ws.nil,am _ _,.inl rfl,hd,by simp[dh],by simp,fun _=>rfl⟩
 go_enter func175,ntmps175
 go_wp2
 generalize hB:w.heap.size=B at *;have HBe:=hid hB;clear hB hd
 go_loopw [0,3,4] (fun rv v fb wr=>∃(r:ByteArray) (f:Bool) (l:List Nat),rv=.string r∧fb=.bool f∧PW s B w wr r f v l) (fun rv _ _ _=>match rv with | .string t=>t.size | _=>0)
 case atStart=>exact ⟨s,true,[],rfl,rfl,HP0.out⟩
 case round=>
  clear HP0;obtain ⟨r,f,l,rfl,rfl,hpw⟩:=hrel;have HP:=hid hpw;have hfew:=hpw.few;have hE:=isE r;clear hpw
  by_cases hr0:r.size=0
  · have hE1:r.toList.isEmpty=true:=by rw[hE];simpa using hr0
    have hE2:r.toList=[]:=by simpa using hE1
    have HV:Hid (wv l=dv s.data.toList):=hid (by
     have:=HP.out.val;have e:r.data.toList=[]:=List.length_eq_zero_iff.1 (by rw[size_data];exact hr0);rw[hr0,e,fT] at this
     omega)
    clear hE
    go_wp2
    go_ret
    exact ⟨_,l,rfl,mz HP.out.own HP.out.ws,HV.out,by omega,by rw[HBe.out];exact HP.out.bel⟩
  · have hE1:r.toList.isEmpty=false:=by rw[hE];simpa using hr0
    have hE2:¬r.toList=[]:=fun e=>by rw[e] at hE1;cases hE1
    clear hE
    by_cases hm:r.size % 9=0
    · have hcz:((r.size:Int) % 9 !=0)=false:=by simp;omega
      have h9:9≤r.size:=by omega
      cases f
      iterate 2
       · obtain ⟨c1,c2,c3,c4,c5,c6,c7⟩:=mA (r:=r) (n:=9) (by omega) (by omega) (by omega) HP.out.dig;have hpu:=Tryz.strconv_ParseUint_10_at32_ok (r.extract 0 9) (by omega) _ c1;have HN:=hid (fun wr' v' l'=>HP.out.next (wr':=wr') (v':=v') (l':=l') (n:=9) (by omega) (by omega) (by omega) (by omega));have hsz:=c4;have C4:=hid c4;clear c1 c3 c4 c5 c6 c7 hsz;generalize dv (r.data.toList.take 9)=x at *
         go_wp2_with fail
         refine (hpu _).mono ?_;rintro e w1 ⟨rfl,hw1⟩
         have hb1:Below wr.heap.size wr w1:=by
          rcases hw1 with h | h
          · subst h;exact am _ _
          · subst h;exact Lib.bytesWorld_below _ _ _
         have HOW:=hid (lq HP.out.own hb1);have HBW:=hid (HP.out.bel.trans (hb1.mono (by have:=HP.out.bel.size;have:=HBe.out;omega)));have HLW:=hid HP.out.ws;clear hw1 hb1 HP hpu;obtain ⟨a,c,hv⟩:=jg HOW.out;subst hv;obtain ⟨wo,rfl⟩:∃wo:World,wo=w1:=⟨_,rfl⟩
         have hxb:x<4294967296:=by omega
         have hx0:(0:Int)≤(x:Int):=by omega
         go_wp2
         go_loopw [8,36] (fun cv iv wr=>∃(k cc:Nat) (l2:List Nat),k≤l.length∧iv=.int .i64 k∧cv=.int .u64 cc∧MacR l l2 1000000000 x k cc∧wr.ownsRow B 207 1 (.slice a l.length c) l2.length (bT l2)∧Below B w wr) (fun _ iv _=>l.length-(intOf iv).toNat)
         case atStart=>exact ⟨0,x,l,aM _,rfl,rfl,MacR.start l _ _ HLW.out (by rw[bj];exact hxb),HOW.out,HBW.out⟩
         case round=>
          obtain ⟨k,cc,l2,hk,rfl,rfl,hmac,hown,hbel⟩:=hrel;have HM:=hid hmac;have hl2:=hmac.len;have hcc:cc<4294967296:=by have:=hmac.c1;rw[bj] at this;exact this
          have hcc0:(0:Int)≤(cc:Int):=by omega
          have HBl:=hid hbel;have hsz2:=hbel.size;clear hmac hbel HOW HBW;have HO1:=hid hown;rw[←hl2] at hown;have HO:=hid hown
          by_cases hlt:k<l.length
          · obtain ⟨g,cap,hv,hg,hcap⟩:=fQ hown (by omega);injection hv with e1 e2 e3;subst e1 e3;obtain ⟨hcl,hfz⟩:=iB hown k (by omega);have HST:=hid (kO hown);have hrest:=HM.out.rest k (aj _);rw[hrest] at hcl;have hy:=cW (i:=k) HLW.out;have hy0:(0:Int)≤((l.getD k 0:Nat):Int):=by omega
            have HSP:=hid (fun t ht=>HM.out.step HLW.out (by rw[bj];omega) hlt t ht);clear hown hrest e2;generalize l.getD k 0=y at *;rw[hl2] at HST
            go_wp2
            rw[jq (y*1000000000+cc) _ (by omega),gz (y*1000000000+cc) _ (by omega)];refine ⟨⟨k+1,_,l2.set k ((y*1000000000+cc) % BB),by omega,by go_num,rfl,(HSP.out _ rfl).1,HST.out k _,HBl.out.setCell hg _⟩,?_⟩
            simp[intOf];omega
          · obtain rfl:k=l.length:=by omega
            obtain ⟨d1,d2,d3⟩:=HM.out.done;have D1:=hid d1;have D2:=hid d2;have D3:=hid d3;clear d1 d2 d3 hown;have hgs:∀g,(Value.slice a l.length c).ownBlock=some g→B≤g:=fun g hg=>(HO1.out.lt g hg).1
            by_cases hc0:cc=0
            · have hcb:((cc:Int) !=0)=false:=by simp[hc0]
              have HV:Hid (wv l2=wv l*1000000000+x):=hid (D2.out hc0);clear hc0
              go_wp2
              refine ⟨⟨r.extract 9 r.size,false,l2,rfl,rfl,HN.out _ _ _ HO1.out HM.out.ws HBl.out (by rw[show 10 ^ 9=1000000000 from rfl];exact HV.out) (by omega)⟩,?_⟩;show (r.extract 9 r.size).size<r.size;rw[C4.out];omega
            · have hcb:((cc:Int) !=0)=true:=by simp;omega
              have HV:Hid (wv (l2++[cc])=wv l*1000000000+x):=hid D1.out;clear hc0;have HO2:=HO1.out;rw[hl2] at HO2;have HO3:=hid HO2;clear HO2
              go_wp2_with (at_builtin;refine wpList_append_own _ rfl (.tmp 57) (.tmp 60) 71 rfl B 207 i0 (.int .u32 0) 1 4 underlying71 hi hz0 hz1 hz2 rfl (by decide) _ l.length _ rfl (HO3.out.alloc _) ⟨wr.heap.size,0,none⟩ 1 1 [.int .u32 cc] rfl rfl (World.news_of_block (cs:=#[.int .u32 cc]) (t:=207) (fr:=(0,0)) (aq wr _)) (by simp[Value.oneCell']) (by unfold maxLen;omega) (by omega) (by simp;have:=HBe.out;have:=HBl.out.size;omega) ?_)
              intro v' w2 hown' hgrow _;have HB2:=hid ((HBl.out.alloc (by have:=HBe.out;have:=HBl.out.size;omega) _).grown hgrow (by simp;have:=HBe.out;have:=HBl.out.size;omega) hgs)
              have HO4:Hid (w2.ownsRow B 207 1 v' (l2++[cc]).length (bT (l2++[cc]))):=hid (by
               rw[aE,aS,hl2];simpa [bT] using hown')
              clear hown' hgrow
              go_wp2
              refine ⟨⟨r.extract 9 r.size,false,l2++[cc],rfl,rfl,HN.out _ _ _ HO4.out D3.out HB2.out (by rw[show 10 ^ 9=1000000000 from rfl];exact HV.out) (by rw[aE,aS];omega)⟩,?_⟩;show (r.extract 9 r.size).size<r.size;rw[C4.out];omega
    · have hf:f=true:=by rcases HP.out.nine with h | h;exact h;exact absurd h hm
      subst hf;have HL0:Hid (wv l=0):=hid (by rw[HP.out.emp rfl];rfl);obtain ⟨N,hN⟩:∃N,r.size % 9=N:=⟨_,rfl⟩
      have hNi:(r.size:Int) % 9=(N:Int):=by omega
      have hcz:((N:Int) !=0)=true:=by simp;omega
      have hN1:0<N:=by omega
      have hN2:N≤9:=by omega
      have hN3:N≤r.size:=by omega
      have hN4:(r.size-N) % 9=0:=by omega
      clear hm hN;obtain ⟨c1,c2,c3,c4,c5,c6,c7⟩:=mA (r:=r) (n:=N) (by omega) (by omega) (by omega) HP.out.dig;have hpu:=Tryz.strconv_ParseUint_10_at32_ok (r.extract 0 N) (by omega) _ c1;have HN:=hid (fun wr' v' l'=>HP.out.next (wr':=wr') (v':=v') (l':=l') (n:=N) (by omega) (by omega) (by omega) (by omega));have hsz:=c4;have C4:=hid c4;clear c1 c3 c4 c5 c6 c7 hsz;generalize dv (r.data.toList.take N)=x at *
      go_wp2_with fail
      refine (hpu _).mono ?_;rintro e w1 ⟨rfl,hw1⟩
      have hb1:Below wr.heap.size wr w1:=by
       rcases hw1 with h | h
       · subst h;exact am _ _
       · subst h;exact Lib.bytesWorld_below _ _ _
      have HOW:=hid (lq HP.out.own hb1);have HBW:=hid (HP.out.bel.trans (hb1.mono (by have:=HP.out.bel.size;have:=HBe.out;omega)));have HLW:=hid HP.out.ws;clear hw1 hb1 HP hpu;obtain ⟨a,c,hv⟩:=jg HOW.out;subst hv;obtain ⟨wo,rfl⟩:∃wo:World,wo=w1:=⟨_,rfl⟩
      have hxb:x<4294967296:=by omega
      have hx0:(0:Int)≤(x:Int):=by omega
      go_wp2
      go_loopw [8,36] (fun cv iv wr=>∃(k cc:Nat) (l2:List Nat),k≤l.length∧iv=.int .i64 k∧cv=.int .u64 cc∧MacR l l2 1000000000 x k cc∧wr.ownsRow B 207 1 (.slice a l.length c) l2.length (bT l2)∧Below B w wr) (fun _ iv _=>l.length-(intOf iv).toNat)
      case atStart=>exact ⟨0,x,l,aM _,rfl,rfl,MacR.start l _ _ HLW.out (by rw[bj];exact hxb),HOW.out,HBW.out⟩
      case round=>
       obtain ⟨k,cc,l2,hk,rfl,rfl,hmac,hown,hbel⟩:=hrel;have HM:=hid hmac;have hl2:=hmac.len;have hcc:cc<4294967296:=by have:=hmac.c1;rw[bj] at this;exact this
       have hcc0:(0:Int)≤(cc:Int):=by omega
       have HBl:=hid hbel;have hsz2:=hbel.size;clear hmac hbel HOW HBW;have HO1:=hid hown;rw[←hl2] at hown;have HO:=hid hown
       by_cases hlt:k<l.length
       · obtain ⟨g,cap,hv,hg,hcap⟩:=fQ hown (by omega);injection hv with e1 e2 e3;subst e1 e3;obtain ⟨hcl,hfz⟩:=iB hown k (by omega);have HST:=hid (kO hown);have hrest:=HM.out.rest k (aj _);rw[hrest] at hcl;have hy:=cW (i:=k) HLW.out;have hy0:(0:Int)≤((l.getD k 0:Nat):Int):=by omega
         have HSP:=hid (fun t ht=>HM.out.step HLW.out (by rw[bj];omega) hlt t ht);clear hown hrest e2;generalize l.getD k 0=y at *;rw[hl2] at HST
         go_wp2
         rw[jq (y*1000000000+cc) _ (by omega),gz (y*1000000000+cc) _ (by omega)];refine ⟨⟨k+1,_,l2.set k ((y*1000000000+cc) % BB),by omega,by go_num,rfl,(HSP.out _ rfl).1,HST.out k _,HBl.out.setCell hg _⟩,?_⟩
         simp[intOf];omega
       · obtain rfl:k=l.length:=by omega
         obtain ⟨d1,d2,d3⟩:=HM.out.done;have D1:=hid d1;have D2:=hid d2;have D3:=hid d3;clear d1 d2 d3 hown;have hgs:∀g,(Value.slice a l.length c).ownBlock=some g→B≤g:=fun g hg=>(HO1.out.lt g hg).1
         by_cases hc0:cc=0
         · have hcb:((cc:Int) !=0)=false:=by simp[hc0]
           have HV:Hid (wv l2=wv l*1000000000+x):=hid (D2.out hc0);clear hc0
           go_wp2
           refine ⟨⟨r.extract N r.size,false,l2,rfl,rfl,HN.out _ _ _ HO1.out HM.out.ws HBl.out (by rw[HV.out,HL0.out,Nat.zero_mul,Nat.zero_mul]) (by omega)⟩,?_⟩;show (r.extract N r.size).size<r.size;rw[C4.out];omega
         · have hcb:((cc:Int) !=0)=true:=by simp;omega
           have HV:Hid (wv (l2++[cc])=wv l*1000000000+x):=hid D1.out;clear hc0;have HO2:=HO1.out;rw[hl2] at HO2;have HO3:=hid HO2;clear HO2
           go_wp2_with (at_builtin;refine wpList_append_own _ rfl (.tmp 57) (.tmp 60) 71 rfl B 207 i0 (.int .u32 0) 1 4 underlying71 hi hz0 hz1 hz2 rfl (by decide) _ l.length _ rfl (HO3.out.alloc _) ⟨wr.heap.size,0,none⟩ 1 1 [.int .u32 cc] rfl rfl (World.news_of_block (cs:=#[.int .u32 cc]) (t:=207) (fr:=(0,0)) (aq wr _)) (by simp[Value.oneCell']) (by unfold maxLen;omega) (by omega) (by simp;have:=HBe.out;have:=HBl.out.size;omega) ?_)
           intro v' w2 hown' hgrow _;have HB2:=hid ((HBl.out.alloc (by have:=HBe.out;have:=HBl.out.size;omega) _).grown hgrow (by simp;have:=HBe.out;have:=HBl.out.size;omega) hgs)
           have HO4:Hid (w2.ownsRow B 207 1 v' (l2++[cc]).length (bT (l2++[cc]))):=hid (by
            rw[aE,aS,hl2];simpa [bT] using hown')
           clear hown' hgrow
           go_wp2
           refine ⟨⟨r.extract N r.size,false,l2++[cc],rfl,rfl,HN.out _ _ _ HO4.out D3.out HB2.out (by rw[HV.out,HL0.out,Nat.zero_mul,Nat.zero_mul]) (by rw[aE,aS];omega)⟩,?_⟩;show (r.extract N r.size).size<r.size;rw[C4.out];omega
theorem kP {fn:Func} {t t':Tmp} {a:Act} {w w2:World} {R:Nat} {z s:Int} {b bb:Bool} {ao:Option Addr} {n c:Nat} {x0 x1 x2:Value} {Q:Ending→World→Prop} (hres:fn.results=#[.cell t 73,.tmp t']) (hd:a.defers=[]) (ht:a.tmps.getD t undef=.pointer (some ⟨R,0,none⟩)) (ht':a.tmps.getD t' undef=.bool bb)
    (hR:w2.heap[R]? =some (.cells #[x0,x1,x2] 73 (0,0))) (hv:IV w2 (.agg #[.int .i64 s,.bool b,.slice ao n c]) z) (hb:Below w.heap.size w w2) (hRB:w.heap.size≤R)
    (hQ:∀w3 v,IV w3 v z→Below w.heap.size w w3→Q (.returned (.tuple #[v,.bool bb])) w3):
    bodyPost prog fn Q .ret a (((w2.setCell ⟨R,0,none⟩ (.int .i64 s)).setCell ⟨R,1,none⟩ (.bool b)).setCell ⟨R,2,none⟩ (.slice ao n c)):=by
 have h3:=heap_set (heap_set (heap_set hR 0 (.int .i64 s)) 1 (.bool b)) 2 (.slice ao n c);have k0:=aa h3 0;have k1:=aa h3 1;have k2:=aa h3 2;have hiv:=hv.set3 hR (.int .i64 s) (.bool b) (.slice ao n c);have hbl:=((hb.setCell (show w.heap.size≤(⟨R,0,none⟩:Addr).block from hRB) (.int .i64 s)).setCell (show w.heap.size≤(⟨R,1,none⟩:Addr).block from hRB) (.bool b)).setCell (show w.heap.size≤(⟨R,2,none⟩:Addr).block from hRB) (.slice ao n c);unfold set3 at hiv;generalize ((w2.setCell ⟨R,0,none⟩ (.int .i64 s)).setCell ⟨R,1,none⟩ (.bool b)).setCell ⟨R,2,none⟩ (.slice ao n c)=w3 at *
 simp at k0 k1 k2
 refine bodyPost_ret (v:=.tuple #[.agg #[.int .i64 s,.bool b,.slice ao n c],.bool bb]) ?_ hd (hQ w3 _ hiv hbl);have h1:a.tmps[t]?.getD undef=.pointer (some ⟨R,0,none⟩):=by simpa using ht
 have h2:a.tmps[t']?.getD undef=.bool bb:=by simpa using ht'
 simp[results,hres,go_sem,h1,h2,k0,k1,k2]
theorem fR {fn:Func} {t t':Tmp} {a:Act} {w w2:World} {R:Nat} {z s:Int} {b bb:Bool} {ao:Option Addr} {n c:Nat} {Q:Ending→World→Prop} (hres:fn.results=#[.cell t 73,.tmp t']) (hd:a.defers=[]) (ht:a.tmps.getD t undef=.pointer (some ⟨R,0,none⟩)) (ht':a.tmps.getD t' undef=.bool bb)
    (hR:w2.heap[R]? =some (.cells #[.int .i64 s,.bool b,.slice ao n c] 73 (0,0))) (hv:IV w2 (.agg #[.int .i64 s,.bool b,.slice ao n c]) z) (hb:Below w.heap.size w w2)
    (hQ:∀w3 v,IV w3 v z→Below w.heap.size w w3→Q (.returned (.tuple #[v,.bool bb])) w3):bodyPost prog fn Q .ret a w2:=by
 have k0:=aa hR 0;have k1:=aa hR 1;have k2:=aa hR 2
 simp at k0 k1 k2
 refine bodyPost_ret (v:=.tuple #[.agg #[.int .i64 s,.bool b,.slice ao n c],.bool bb]) ?_ hd (hQ w2 _ hv hb);have h1:a.tmps[t]?.getD undef=.pointer (some ⟨R,0,none⟩):=by simpa using ht
 have h2:a.tmps[t']?.getD undef=.bool bb:=by simpa using ht'
 simp[results,hres,go_sem,h1,h2,k0,k1,k2]
def eg (l:List UInt8) (w:World) (e:Ending) (w':World):Prop:=∃v,e=.returned (.tuple #[v,.bool (gt l).isSome])∧IV w' v ((gt l).getD 0)∧Below w.heap.size w w'
theorem gA {l:List UInt8} {w:World} (h:gt l=none):∀w3 v,IV w3 v 0→Below w.heap.size w w3→eg l w (.returned (.tuple #[v,.bool false])) w3:=fun w3 v h1 h2=>⟨v,by rw[h];rfl,by rw[h];exact h1,h2⟩
theorem j4 {l:List UInt8} {w:World} {z:Int} (h:gt l=some z):∀w3 v,IV w3 v z→Below w.heap.size w w3→eg l w (.returned (.tuple #[v,.bool true])) w3:=fun w3 v h1 h2=>⟨v,by rw[h];rfl,by rw[h];exact h1,h2⟩
theorem byte_at (s:ByteArray) (k:Nat) (h:k<s.size):s.data.toList[k]? =some s[k]:=by
 rw[ay (by rw[size_data];exact h)];rfl
theorem take_all (s:ByteArray) (k:Nat) (h:k<s.size) (ha:(s.data.toList.take k).all isD=true) (hc:isD s[k]=true):(s.data.toList.take (k+1)).all isD=true:=by
 rw[List.take_add_one,byte_at s k h,List.all_append,ha];simpa using hc
theorem not_all (s:ByteArray) (k:Nat) (h:k<s.size) (hc:isD s[k]=false):s.data.toList.all isD=false:=by
 rw[List.all_eq_false];exact ⟨s[k],List.mem_of_getElem? (byte_at s k h),by rw[hc];simp⟩
theorem dj (w:World):IV w (.agg #[.int .i64 0,.bool false,.slice none 0 0]) 0:=cw w (by unfold aV;omega)
theorem uK {l d:List UInt8} {b:Bool} (hb:sgB l=b) (hd:ci l=d):(d=[]→gt l=none)∧(d.all isD=false→gt l=none)∧(d≠[]→d.all isD=true→gt l=some (sgn b (dv d))):=by
 unfold gt;rw[hb,hd];refine ⟨fun h=>by rw[aF (.inl h)],fun h=>by rw[aF (.inr h)],fun h1 h2=>by rw[aB (by rintro (h | h);exact h1 h;rw[h2] at h;cases h)]⟩
theorem pl (s r:ByteArray) (w:World) (hs:s.size≤1000000) (h0:0<s.size) (h45:s[0].toNat=45) (hsg:sgB s.data.toList=true) (hbd:ci s.data.toList=r.data.toList):
    Calls prog 125 #[.string s] w (eg s.data.toList w):=by
 obtain rfl:r=s.extract 1 s.size:=by
  apply ByteArray.ext;apply Array.toList_inj.1;rw[←hbd,ex_data];unfold ci;rw[hsg,aF rfl,aT (by rw[List.length_drop,size_data];exact aj _)];exact (List.drop_one).symm
 have h45b:((s[0].toNat:Int)==45)=true:=by simp[h45]
 have hsz:(s.extract 1 s.size).size=s.size-1:=by rw[ByteArray.size_extract];omega
 have hszr:(s.extract 1 s.size).size≤1000000:=by omega
 clear h45;generalize hre:s.extract 1 s.size=r at *;obtain ⟨i1,i2,i3⟩:=uK hsg hbd;have I1:=hid i1;have I2:=hid i2;have I3:=hid i3;have hE:=isE r;clear i1 i2 i3 hsg hbd;have hbel:Below w.heap.size w (w.alloc (.cells #[.int .i64 0,.bool false,.slice none 0 0] 73)):=(am _ _).alloc (aj _) _;have HBL:=hid hbel;have HRR:Hid ((w.alloc (.cells #[.int .i64 0,.bool false,.slice none 0 0] 73)).heap[w.heap.size]? =some (.cells #[.int .i64 0,.bool false,.slice none 0 0] 73 (0,0))):=hid (aq w _);clear hbel
 by_cases hr0:r.size=0
 · have hE1:r.toList.isEmpty=true:=by rw[hE];simpa using hr0
   have hE2:r.toList=[]:=by simpa using hE1
   have HN:=hid (I1.out (List.length_eq_zero_iff.1 (by rw[size_data];exact hr0)));clear hE
   go_enter func125,ntmps125
   go_wp2
   exact fR results125 rfl rfl rfl HRR.out (dj _) HBL.out (gA HN.out)
 · have hE1:r.toList.isEmpty=false:=by rw[hE];simpa using hr0
   have hE2:¬r.toList=[]:=fun e=>by rw[e] at hE1;cases hE1
   have hne:r.data.toList≠[]:=fun e=>by have:=size_data r;rw[e] at this;simp at this;omega
   have HNE:=hid hne;clear hE hne
   go_enter func125,ntmps125
   go_wp2_with fail
   go_loop [6] (fun iv=>∃k:Nat,k≤r.size∧iv=.int .i64 k∧(r.data.toList.take k).all isD=true) (fun iv=>r.size-(intOf iv).toNat)
   case atStart=>exact ⟨0,aM _,rfl,rfl⟩
   case round=>
    obtain ⟨k,hk,rfl,ha⟩:=hrel;have HA:=hid ha;clear ha
    by_cases hlt:k<r.size
    · by_cases hd:isD r[k]=true
      · have h1:¬(r[k].toNat:Int)<48:=by have:=cA.1 hd;omega
        have h2:¬(57:Int)<(r[k].toNat:Int):=by have:=cA.1 hd;omega
        have HD:=hid (take_all r k hlt HA.out hd);clear hd
        go_wp2_with fail
        go_round
        case rel=>exact ⟨k+1,by omega,by go_num,HD.out⟩
        case measure=>simp[intOf];omega
      · have hd':isD r[k]=false:=by simpa using hd
        have HN:=hid (I2.out (not_all r k hlt hd'))
        by_cases h1:(r[k].toNat:Int)<48
        · clear hd hd'
          go_wp2_with fail
          exact fR results125 rfl rfl rfl HRR.out (dj _) HBL.out (gA HN.out)
        · have h2:(57:Int)<(r[k].toNat:Int):=by simp[isD] at hd';omega
          clear hd hd'
          go_wp2_with fail
          exact fR results125 rfl rfl rfl HRR.out (dj _) HBL.out (gA HN.out)
    · have hall:r.data.toList.all isD=true:=by
        have:=HA.out;rwa [aT (by rw[size_data];omega)] at this
      have HS:=hid (I3.out HNE.out hall);have HAL:=hid hall
      by_cases h18:r.size≤18
      · obtain ⟨p1,p2⟩:=ou r.data.toList hall HNE.out (by rw[size_data];exact h18);have hpi:=Tryz.strconv_ParseInt_10_at64_ok r (by omega) _ p1;clear p1 hall;generalize dv r.data.toList=x at *;have hx0:(0:Int)≤(x:Int):=by omega
        have hx1:(x:Int)≤9223372036854775807:=by omega
        go_wp2_with fail
        refine (hpi _).mono ?_;rintro e w1 ⟨rfl,hw1⟩
        have hb1:Below (w.alloc (.cells #[.int .i64 0,.bool false,.slice none 0 0] 73)).heap.size (w.alloc (.cells #[.int .i64 0,.bool false,.slice none 0 0] 73)) w1:=by
         rcases hw1 with h | ⟨t,h⟩
         · subst h;exact am _ _
         · subst h;exact Lib.bytesWorld_below _ _ _
        have HB1:=hid (HBL.out.trans (hb1.mono (by simp)));have HR1:=hid ((hb1.block w.heap.size (by simp)).trans HRR.out);obtain ⟨r0,r1,r2,r3,r4,r5⟩:=Res.cells HR1.out;clear hw1 hb1 hpi;have hsx:aV (sgn true x):=kM (by omega)
        go_wp2_with fail
        exact kP results125 rfl rfl rfl HR1.out (cw _ hsx) HB1.out (aj _) (j4 HS.out)
      · have hpw:=fun W=>iD r W (by omega) hall
        clear hall
        go_wp2_with fail
        refine (hpw _).mono ?_;rintro e w1 ⟨v1,l1,rfl,hv1,hl1,hll,hb1⟩;have HB1:=hid (HBL.out.trans (hb1.mono (by simp)));have HR1:=hid ((hb1.block w.heap.size (by simp)).trans HRR.out);have hfp:=cr true v1 l1 w1 hv1 (by omega);rw[hl1] at hfp;clear hb1 hv1 hl1 hpw
        go_wp2_with fail
        refine hfp.mono ?_;rintro e w2 ⟨v2,rfl,hv2,hb2⟩;have HV2:=hid hv2;obtain ⟨s2,b2,a2,n2,c2,rfl⟩:=aY hv2;have HB2:=hid (HB1.out.trans (hb2.mono HB1.out.size));have HR2:=hid ((hb2.block w.heap.size (ar HR1.out)).trans HR1.out);obtain ⟨r0,r1,r2,r3,r4,r5⟩:=Res.cells HR2.out;clear hb2 hv2 hfp
        go_wp2_with fail
        exact kP results125 rfl rfl rfl HR2.out HV2.out HB2.out (aj _) (j4 HS.out)
theorem j5 (s r:ByteArray) (w:World) (hs:s.size≤1000000) (h0:s.size=0∨(∃h:0<s.size,s[0].toNat≠45)) (hsg:sgB s.data.toList=false) (hbd:ci s.data.toList=r.data.toList):
    Calls prog 125 #[.string s] w (eg s.data.toList w):=by
 obtain rfl:r=s:=by
  apply ByteArray.ext;apply Array.toList_inj.1;rw[←hbd];unfold ci;rw[hsg];rfl
 have h45b:∀h:0<r.size,((r[0].toNat:Int)==45)=false:=fun h=>by
  rcases h0 with h1 | ⟨h1,h2⟩
  · omega
  · simp;omega
 clear h0;obtain ⟨i1,i2,i3⟩:=uK hsg hbd;have I1:=hid i1;have I2:=hid i2;have I3:=hid i3;have hE:=isE r;clear i1 i2 i3 hsg hbd;have hbel:Below w.heap.size w (w.alloc (.cells #[.int .i64 0,.bool false,.slice none 0 0] 73)):=(am _ _).alloc (aj _) _;have HBL:=hid hbel;have HRR:Hid ((w.alloc (.cells #[.int .i64 0,.bool false,.slice none 0 0] 73)).heap[w.heap.size]? =some (.cells #[.int .i64 0,.bool false,.slice none 0 0] 73 (0,0))):=hid (aq w _);clear hbel
 by_cases hr0:r.size=0
 · have hE1:r.toList.isEmpty=true:=by rw[hE];simpa using hr0
   have hE2:r.toList=[]:=by simpa using hE1
   have HN:=hid (I1.out (List.length_eq_zero_iff.1 (by rw[size_data];exact hr0)));clear hE
   go_enter func125,ntmps125
   go_wp2
   exact fR results125 rfl rfl rfl HRR.out (dj _) HBL.out (gA HN.out)
 · have hE1:r.toList.isEmpty=false:=by rw[hE];simpa using hr0
   have hE2:¬r.toList=[]:=fun e=>by rw[e] at hE1;cases hE1
   have hne:r.data.toList≠[]:=fun e=>by have:=size_data r;rw[e] at this;simp at this;omega
   have HNE:=hid hne;clear hE hne
   go_enter func125,ntmps125
   go_wp2_with fail
   go_loop [6] (fun iv=>∃k:Nat,k≤r.size∧iv=.int .i64 k∧(r.data.toList.take k).all isD=true) (fun iv=>r.size-(intOf iv).toNat)
   case atStart=>exact ⟨0,aM _,rfl,rfl⟩
   case round=>
    obtain ⟨k,hk,rfl,ha⟩:=hrel;have HA:=hid ha;clear ha
    by_cases hlt:k<r.size
    · by_cases hd:isD r[k]=true
      · have h1:¬(r[k].toNat:Int)<48:=by have:=cA.1 hd;omega
        have h2:¬(57:Int)<(r[k].toNat:Int):=by have:=cA.1 hd;omega
        have HD:=hid (take_all r k hlt HA.out hd);clear hd
        go_wp2_with fail
        go_round
        case rel=>exact ⟨k+1,by omega,by go_num,HD.out⟩
        case measure=>simp[intOf];omega
      · have hd':isD r[k]=false:=by simpa using hd
        have HN:=hid (I2.out (not_all r k hlt hd'))
        by_cases h1:(r[k].toNat:Int)<48
        · clear hd hd'
          go_wp2_with fail
          exact fR results125 rfl rfl rfl HRR.out (dj _) HBL.out (gA HN.out)
        · have h2:(57:Int)<(r[k].toNat:Int):=by simp[isD] at hd';omega
          clear hd hd'
          go_wp2_with fail
          exact fR results125 rfl rfl rfl HRR.out (dj _) HBL.out (gA HN.out)
    · have hall:r.data.toList.all isD=true:=by
        have:=HA.out;rwa [aT (by rw[size_data];omega)] at this
      have HS:=hid (I3.out HNE.out hall);have HAL:=hid hall
      by_cases h18:r.size≤18
      · obtain ⟨p1,p2⟩:=ou r.data.toList hall HNE.out (by rw[size_data];exact h18);have hpi:=Tryz.strconv_ParseInt_10_at64_ok r (by omega) _ p1;clear p1 hall;generalize dv r.data.toList=x at *;have hx0:(0:Int)≤(x:Int):=by omega
        have hx1:(x:Int)≤9223372036854775807:=by omega
        go_wp2_with fail
        refine (hpi _).mono ?_;rintro e w1 ⟨rfl,hw1⟩
        have hb1:Below (w.alloc (.cells #[.int .i64 0,.bool false,.slice none 0 0] 73)).heap.size (w.alloc (.cells #[.int .i64 0,.bool false,.slice none 0 0] 73)) w1:=by
         rcases hw1 with h | ⟨t,h⟩
         · subst h;exact am _ _
         · subst h;exact Lib.bytesWorld_below _ _ _
        have HB1:=hid (HBL.out.trans (hb1.mono (by simp)));have HR1:=hid ((hb1.block w.heap.size (by simp)).trans HRR.out);obtain ⟨r0,r1,r2,r3,r4,r5⟩:=Res.cells HR1.out;clear hw1 hb1 hpi;have hsx:aV (sgn false x):=kM (by omega)
        go_wp2_with fail
        exact kP results125 rfl rfl rfl HR1.out (cw _ hsx) HB1.out (aj _) (j4 HS.out)
      · have hpw:=fun W=>iD r W (by omega) hall
        clear hall
        go_wp2_with fail
        refine (hpw _).mono ?_;rintro e w1 ⟨v1,l1,rfl,hv1,hl1,hll,hb1⟩;have HB1:=hid (HBL.out.trans (hb1.mono (by simp)));have HR1:=hid ((hb1.block w.heap.size (by simp)).trans HRR.out);have hfp:=cr false v1 l1 w1 hv1 (by omega);rw[hl1] at hfp;clear hb1 hv1 hl1 hpw
        go_wp2_with fail
        refine hfp.mono ?_;rintro e w2 ⟨v2,rfl,hv2,hb2⟩;have HV2:=hid hv2;obtain ⟨s2,b2,a2,n2,c2,rfl⟩:=aY hv2;have HB2:=hid (HB1.out.trans (hb2.mono HB1.out.size));have HR2:=hid ((hb2.block w.heap.size (ar HR1.out)).trans HR1.out);obtain ⟨r0,r1,r2,r3,r4,r5⟩:=Res.cells HR2.out;clear hb2 hv2 hfp
        go_wp2_with fail
        exact kP results125 rfl rfl rfl HR2.out HV2.out HB2.out (aj _) (j4 HS.out)
theorem pn (s:ByteArray) (w:World) (hs:s.size≤1000000):Calls prog 125 #[.string s] w (eg s.data.toList w):=by
 have hl:=size_data s
 by_cases h0:0<s.size
 · have hh:s.data.toList.head? =some s[0]:=by rw[List.head?_eq_getElem?];exact byte_at s 0 h0
   by_cases h45:s[0].toNat=45
   · have e:s[0]=45:=UInt8.toNat_inj.1 h45;have hsg:sgB s.data.toList=true:=by unfold sgB;rw[hh,e];rfl
     refine pl s (s.extract 1 s.size) w hs h0 h45 hsg ?_;unfold ci;rw[hsg,aF rfl,ex_data,aT (by rw[List.length_drop,hl];exact aj _),List.drop_one]
   · have hsg:sgB s.data.toList=false:=by
       unfold sgB;rw[hh];simp only[beq_eq_false_iff_ne,ne_eq,Option.some.injEq];intro e;rw[e] at h45;exact h45 rfl
     refine j5 s s w hs (.inr ⟨h0,h45⟩) hsg ?_;unfold ci;rw[hsg];rfl
 · have hnil:s.data.toList=[]:=List.length_eq_zero_iff.1 (by omega);have hsg:sgB s.data.toList=false:=by rw[hnil];rfl
   refine j5 s s w hs (.inl (by omega)) hsg ?_;unfold ci;rw[hsg];rfl
theorem tj (l:List UInt8):Lib.trimPrefix l [45]=ci l:=by
 unfold Lib.trimPrefix ci sgB;cases l with
 | nil=>rfl
 | cons c r=>
   by_cases h:c=45
   · subst h;simp[Lib.hasPrefix]
   · have h2:(some c==some (45:UInt8))=false:=by simp[h]
     have h3:Lib.hasPrefix (c::r) [45]=false:=by
      have e:Lib.hasPrefix (c::r) [45]=decide (c=45):=by
       show ((45:UInt8)==c && true)=decide (c=45);rw[Bool.and_true,Bool.eq_iff_iff];simp only[beq_iff_eq,decide_eq_true_eq];exact eq_comm
      rw[e];simpa using h
     rw[h3,List.head?_cons,h2];rfl
def kQ (l:List UInt8) (w:World) (e:Ending) (w':World):Prop:=∃v,e=.returned (.tuple #[v,.bool (br l).isSome])∧IV w' v ((br l).getD 0)∧Below w.heap.size w w'
theorem uL {l:List UInt8} {w:World} (h:br l=none):∀w3 v,IV w3 v 0→Below w.heap.size w w3→kQ l w (.returned (.tuple #[v,.bool false])) w3:=fun w3 v h1 h2=>⟨v,by rw[h];rfl,by rw[h];exact h1,h2⟩
theorem uM {l:List UInt8} {w:World} (h:br l=gt l):∀w3 v,IV w3 v ((gt l).getD 0)→Below w.heap.size w w3→kQ l w (.returned (.tuple #[v,.bool (gt l).isSome])) w3:=fun w3 v h1 h2=>⟨v,by rw[h],by rw[h];exact h1,h2⟩
theorem bV (s:ByteArray) (w:World) (hs:s.size≤1000000):Calls prog 83 #[.string s] w (kQ s.data.toList w):=by
 have htp:=fun W=>Tryz.strings_TrimPrefix s ⟨#[45]⟩ W
 have ht:Lib.trimPrefix s.data.toList (⟨#[45]⟩:ByteArray).data.toList=ci s.data.toList:=tj _;rw[ht] at htp;clear ht;have hpi:=fun W=>pn s W hs
 have hbel:Below w.heap.size w (w.alloc (.cells #[.int .i64 0,.bool false,.slice none 0 0] 73)):=(am _ _).alloc (aj _) _;have HBL:=hid hbel;have HRR:Hid ((w.alloc (.cells #[.int .i64 0,.bool false,.slice none 0 0] 73)).heap[w.heap.size]? =some (.cells #[.int .i64 0,.bool false,.slice none 0 0] 73 (0,0))):=hid (aq w _);have HCF:Hid (br s.data.toList=if ci s.data.toList=[]∨((ci s.data.toList).headD 0=48∧s.data.toList≠[48]) then none else gt s.data.toList):=hid rfl;clear hbel;obtain ⟨d,hd⟩:∃d:ByteArray,(⟨(ci s.data.toList).toArray⟩:ByteArray)=d:=⟨_,rfl⟩
 rw[hd] at htp;have hdl:d.data.toList=ci s.data.toList:=by rw[←hd]
 rw[←hdl] at HCF;have hE:=isE d;clear hd hdl
 by_cases hd0:d.size=0
 · have hE1:d.toList.isEmpty=true:=by rw[hE];simpa using hd0
   have hE2:d.toList=[]:=by simpa using hE1
   have HN:Hid (br s.data.toList=none):=hid (by rw[HCF.out,aF (.inl (List.length_eq_zero_iff.1 (by rw[size_data];exact hd0)))]);clear hE
   go_enter func83,ntmps83
   go_wp2_with fail
   refine (htp _).mono ?_;rintro e w1 ⟨rfl,rfl⟩
   go_wp2_with fail
   exact fR results83 rfl rfl rfl HRR.out (dj _) HBL.out (uL HN.out)
 · have hE1:d.toList.isEmpty=false:=by rw[hE];simpa using hd0
   have hE2:¬d.toList=[]:=fun e=>by rw[e] at hE1;cases hE1
   have hd1:0<d.size:=by omega
   have hne:d.data.toList≠[]:=fun e=>by have:=size_data d;rw[e] at this;simp at this;omega
   have hh:d.data.toList.headD 0=d[0]:=by
    have:=byte_at d 0 hd1;rw[←List.head?_eq_getElem?] at this;rw[List.headD_eq_head?_getD,this];rfl
   have HNE:=hid hne;have HH:=hid hh;clear hE hne hh
   by_cases h48:d[0].toNat=48
   · by_cases hz:s.data.toList=[48]
     · have HS:Hid (br s.data.toList=gt s.data.toList):=hid (by rw[HCF.out,aB (by rintro (h | h);exact HNE.out h;exact h.2 hz)]);have hzb:(s.toList==[48])=true:=by rw[ByteArray.toList_eq,hz];rfl
       have hzb2:(s.toList !=[48])=false:=by rw[ByteArray.toList_eq,hz];rfl
       have h48b:((d[0].toNat:Int)==48)=true:=by simp[h48]
       clear h48 hz
       go_enter func83,ntmps83
       go_wp2_with fail
       refine (htp _).mono ?_;rintro e w1 ⟨rfl,rfl⟩
       go_wp2_with fail
       refine (hpi _).mono ?_;rintro e w1 ⟨v1,rfl,hv1,hb1⟩;have HV1:=hid hv1;obtain ⟨s1,b1,a1,n1,c1,rfl⟩:=aY hv1;have HB1:=hid (HBL.out.trans (hb1.mono (by simp)));have HR1:=hid ((hb1.block w.heap.size (by simp)).trans HRR.out);obtain ⟨r0,r1,r2,r3,r4,r5⟩:=Res.cells HR1.out;clear hb1 hv1 hpi;generalize hok:(gt s.data.toList).isSome=ok at *;have HOK:=hid hok;clear hok
       go_wp2_with fail
       exact kP results83 rfl rfl rfl HR1.out HV1.out HB1.out (aj _) (by rw[←HOK.out];exact uM HS.out)
     · have HN:Hid (br s.data.toList=none):=hid (by
         have h:(d.data.toList).headD 0=48:=by rw[HH.out];exact UInt8.toNat_inj.1 h48
         rw[HCF.out,aF (.inr ⟨h,hz⟩)])
       have hzb:(s.toList==[48])=false:=by rw[ByteArray.toList_eq];simpa using hz
       have hzb2:(s.toList !=[48])=true:=by rw[ByteArray.toList_eq];simpa using hz
       have h48b:((d[0].toNat:Int)==48)=true:=by simp[h48]
       clear h48 hz
       go_enter func83,ntmps83
       go_wp2_with fail
       refine (htp _).mono ?_;rintro e w1 ⟨rfl,rfl⟩
       go_wp2_with fail
       exact fR results83 rfl rfl rfl HRR.out (dj _) HBL.out (uL HN.out)
   · have HS:Hid (br s.data.toList=gt s.data.toList):=hid (by
       rw[HCF.out,aB (by
        rintro (h | h)
        · exact HNE.out h
        · have:=h.1;rw[HH.out] at this;rw[this] at h48;exact h48 rfl)])
     have h48b:((d[0].toNat:Int)==48)=false:=by simp;omega
     clear h48
     go_enter func83,ntmps83
     go_wp2_with fail
     refine (htp _).mono ?_;rintro e w1 ⟨rfl,rfl⟩
     go_wp2_with fail
     refine (hpi _).mono ?_;rintro e w1 ⟨v1,rfl,hv1,hb1⟩;have HV1:=hid hv1;obtain ⟨s1,b1,a1,n1,c1,rfl⟩:=aY hv1;have HB1:=hid (HBL.out.trans (hb1.mono (by simp)));have HR1:=hid ((hb1.block w.heap.size (by simp)).trans HRR.out);obtain ⟨r0,r1,r2,r3,r4,r5⟩:=Res.cells HR1.out;clear hb1 hv1 hpi;generalize hok:(gt s.data.toList).isSome=ok at *;have HOK:=hid hok;clear hok
     go_wp2_with fail
     exact kP results83 rfl rfl rfl HR1.out HV1.out HB1.out (aj _) (by rw[←HOK.out];exact uM HS.out)
theorem np:∀l:List UInt8,(l.contains 47=true→0≤Lib.indexByte l 47∧l.take (Lib.indexByte l 47).toNat=dB l∧l.drop ((Lib.indexByte l 47).toNat+1)=bC l)∧(l.contains 47=false→Lib.indexByte l 47= -1):=by
 intro l
 induction l with
 | nil=>exact ⟨fun h=>by simp at h,fun _=>rfl⟩
 | cons b r ih=>
   obtain ⟨i1,i2⟩:=ih
   by_cases hb:b=47
   · subst hb;exact ⟨fun _=>⟨by simp[Lib.indexByte],by simp[Lib.indexByte,dB],by simp[Lib.indexByte,bC]⟩,fun h=>by simp at h⟩
   · have hb':(b==(47:UInt8))=false:=by simpa using hb
     have hbn:(b !=(47:UInt8))=true:=by simpa using hb
     have hc:(b::r).contains 47=r.contains 47:=by
      rw[List.contains_cons];rw[show ((47:UInt8)==b)=false by rw[beq_eq_false_iff_ne];exact fun e=>hb e.symm]
      simp
     rw[hc]
     constructor
     · intro h;obtain ⟨h0,h1,h2⟩:=i1 h
       have hi:Lib.indexByte (b::r) 47=Lib.indexByte r 47+1:=by
        have hne:(Lib.indexByte r 47== -1)=false:=by rw[beq_eq_false_iff_ne];omega
        simp[Lib.indexByte,hb',hne]
       obtain ⟨n,hn⟩:=Int.eq_ofNat_of_zero_le h0;rw[hi,hn];have e1:((n:Int)+1).toNat=n+1:=by omega
       rw[hn] at h1 h2;rw[e1];simp only[Int.toNat_natCast] at h1 h2;refine ⟨by omega,?_,?_⟩
       · rw[List.take_succ_cons,h1];unfold dB;rw[List.takeWhile_cons,hbn];simp
       · rw[List.drop_succ_cons,h2];unfold bC;rw[List.dropWhile_cons,hbn];simp
     · intro h;rw[Lib.indexByte,hb',i2 h];rfl
theorem ow (l:List UInt8):Lib.cut l [47]=if l.contains 47 then (dB l,bC l,true) else (l,[],false):=by
 unfold Lib.cut;rw[Lib.index_one];obtain ⟨h1,h2⟩:=np l
 by_cases hc:l.contains 47=true
 · obtain ⟨a,b,c⟩:=h1 hc;rw[aF a,aF hc,b];simp only[aS,c]
 · have hf:l.contains 47=false:=by simpa using hc
   rw[h2 hf,hf];rfl
def cm (l:List UInt8) (w:World) (e:Ending) (w':World):Prop:=∃v,e=.returned (.tuple #[v,.bool (bp l).isSome])∧RV w' v ((bp l).getD 0)∧Below w.heap.size w w'
theorem xP {l:List UInt8} (h:l.contains 47=false):bp l=Option.map (fun z:Int=>(z:Rat)) (br l):=by unfold bp;rw[aF h]
theorem mB {fn:Func} {t t':Tmp} {a:Act} {w w2:World} {R:Nat} {q:Rat} {bb:Bool} {s1:Int} {b1:Bool} {a1:Option Addr} {n1 c1:Nat} {s2:Int} {b2:Bool} {a2:Option Addr} {n2 c2:Nat} {x0 x1 x2 x3 x4 x5:Value} {Q:Ending→World→Prop} (hres:fn.results=#[.cell t 75,.tmp t']) (hd:a.defers=[]) (ht:a.tmps.getD t undef=.pointer (some ⟨R,0,none⟩)) (ht':a.tmps.getD t' undef=.bool bb)
    (hR:w2.heap[R]? =some (.cells #[x0,x1,x2,x3,x4,x5] 75 (0,0))) (hn:IV w2 (.agg #[.int .i64 s1,.bool b1,.slice a1 n1 c1]) q.num) (hdn:IV w2 (.agg #[.int .i64 s2,.bool b2,.slice a2 n2 c2]) (fE q)) (hb:Below w.heap.size w w2) (hRB:w.heap.size≤R)
    (hQ:∀w3 v,RV w3 v q→Below w.heap.size w w3→Q (.returned (.tuple #[v,.bool bb])) w3):
    bodyPost prog fn Q .ret a ((((((w2.setCell ⟨R,0,none⟩ (.int .i64 s1)).setCell ⟨R,1,none⟩ (.bool b1)).setCell ⟨R,2,none⟩ (.slice a1 n1 c1)).setCell ⟨R,3,none⟩ (.int .i64 s2)).setCell ⟨R,4,none⟩ (.bool b2)).setCell ⟨R,5,none⟩ (.slice a2 n2 c2)):=by
 show bodyPost prog fn Q .ret a (dO w2 R (.int .i64 s1) (.bool b1) (.slice a1 n1 c1) (.int .i64 s2) (.bool b2) (.slice a2 n2 c2));have h3:=dy hR (.int .i64 s1) (.bool b1) (.slice a1 n1 c1) (.int .i64 s2) (.bool b2) (.slice a2 n2 c2);have hbl:=cX hb hRB (.int .i64 s1) (.bool b1) (.slice a1 n1 c1) (.int .i64 s2) (.bool b2) (.slice a2 n2 c2);have ho:∀k,k≠R→(dO w2 R (.int .i64 s1) (.bool b1) (.slice a1 n1 c1) (.int .i64 s2) (.bool b2) (.slice a2 n2 c2)).heap[k]? =w2.heap[k]? :=fun k hk=>bc hk _ _ _ _ _ _
 have hn2:=hn.heap_same hR (by decide) ho;have hd2:=hdn.heap_same hR (by decide) ho;generalize dO w2 R (.int .i64 s1) (.bool b1) (.slice a1 n1 c1) (.int .i64 s2) (.bool b2) (.slice a2 n2 c2)=w3 at *;have k0:=aa h3 0;have k1:=aa h3 1;have k2:=aa h3 2;have k3:=aa h3 3;have k4:=aa h3 4;have k5:=aa h3 5
 simp at k0 k1 k2 k3 k4 k5
 refine bodyPost_ret (v:=.tuple #[.agg #[.int .i64 s1,.bool b1,.slice a1 n1 c1,.int .i64 s2,.bool b2,.slice a2 n2 c2],.bool bb]) ?_ hd (hQ w3 _ ⟨_,_,_,_,_,_,_,_,_,_,rfl,hn2,hd2⟩ hbl);have h1:a.tmps[t]?.getD undef=.pointer (some ⟨R,0,none⟩):=by simpa using ht
 have h2:a.tmps[t']?.getD undef=.bool bb:=by simpa using ht'
 simp[results,hres,go_sem,h1,h2,k0,k1,k2,k3,k4,k5]
theorem lS {fn:Func} {t t':Tmp} {a:Act} {w w2:World} {R:Nat} {q:Rat} {bb:Bool} {s1:Int} {b1:Bool} {a1:Option Addr} {n1 c1:Nat} {s2:Int} {b2:Bool} {a2:Option Addr} {n2 c2:Nat} {x0 x1 x2 x3 x4 x5:Value} {o:Obj} {Q:Ending→World→Prop} (hres:fn.results=#[.cell t 75,.tmp t']) (hd:a.defers=[]) (ht:a.tmps.getD t undef=.pointer (some ⟨R,0,none⟩)) (ht':a.tmps.getD t' undef=.bool bb)
    (hR:w2.heap[R]? =some (.cells #[x0,x1,x2,x3,x4,x5] 75 (0,0))) (hn:IV w2 (.agg #[.int .i64 s1,.bool b1,.slice a1 n1 c1]) q.num) (hdn:IV w2 (.agg #[.int .i64 s2,.bool b2,.slice a2 n2 c2]) (fE q)) (hb:Below w.heap.size w w2) (hRB:w.heap.size≤R)
    (hQ:∀w3 v,RV w3 v q→Below w.heap.size w w3→Q (.returned (.tuple #[v,.bool bb])) w3):
    bodyPost prog fn Q .ret a (((((((w2.setCell ⟨R,0,none⟩ (.int .i64 s1)).setCell ⟨R,1,none⟩ (.bool b1)).setCell ⟨R,2,none⟩ (.slice a1 n1 c1)).setCell ⟨R,3,none⟩ (.int .i64 s2)).setCell ⟨R,4,none⟩ (.bool b2)).setCell ⟨R,5,none⟩ (.slice a2 n2 c2)).alloc o):=by
 show bodyPost prog fn Q .ret a ((dO w2 R (.int .i64 s1) (.bool b1) (.slice a1 n1 c1) (.int .i64 s2) (.bool b2) (.slice a2 n2 c2)).alloc o);have h3:=dy hR (.int .i64 s1) (.bool b1) (.slice a1 n1 c1) (.int .i64 s2) (.bool b2) (.slice a2 n2 c2);have hbl:=cX hb hRB (.int .i64 s1) (.bool b1) (.slice a1 n1 c1) (.int .i64 s2) (.bool b2) (.slice a2 n2 c2);have ho:∀k,k≠R→(dO w2 R (.int .i64 s1) (.bool b1) (.slice a1 n1 c1) (.int .i64 s2) (.bool b2) (.slice a2 n2 c2)).heap[k]? =w2.heap[k]? :=fun k hk=>bc hk _ _ _ _ _ _
 have hn2:=hn.heap_same hR (by decide) ho;have hd2:=hdn.heap_same hR (by decide) ho;generalize dO w2 R (.int .i64 s1) (.bool b1) (.slice a1 n1 c1) (.int .i64 s2) (.bool b2) (.slice a2 n2 c2)=w3 at *;replace h3:=(Below.heap_alloc w3 o R (ar h3)).trans h3;replace hn2:=hn2.alloc_of o;replace hd2:=hd2.alloc_of o;replace hbl:=hbl.alloc hbl.size o;generalize w3.alloc o=w4 at *;have k0:=aa h3 0;have k1:=aa h3 1;have k2:=aa h3 2;have k3:=aa h3 3;have k4:=aa h3 4;have k5:=aa h3 5
 simp at k0 k1 k2 k3 k4 k5
 refine bodyPost_ret (v:=.tuple #[.agg #[.int .i64 s1,.bool b1,.slice a1 n1 c1,.int .i64 s2,.bool b2,.slice a2 n2 c2],.bool bb]) ?_ hd (hQ w4 _ ⟨_,_,_,_,_,_,_,_,_,_,rfl,hn2,hd2⟩ hbl);have h1:a.tmps[t]?.getD undef=.pointer (some ⟨R,0,none⟩):=by simpa using ht
 have h2:a.tmps[t']?.getD undef=.bool bb:=by simpa using ht'
 simp[results,hres,go_sem,h1,h2,k0,k1,k2,k3,k4,k5]
theorem ResR.cells {w:World} {R:Nat} (h:w.heap[R]? =some (.cells #[.int .i64 0,.bool false,.slice none 0 0,.int .i64 0,.bool false,.slice none 0 0] 75 (0,0))):(w.cell? ⟨R,0,none⟩=some (.int .i64 0)∧w.cell? ⟨R,1,none⟩=some (.bool false)∧w.cell? ⟨R,2,none⟩=some (.slice none 0 0)∧w.cell? ⟨R,3,none⟩=some (.int .i64 0)∧w.cell? ⟨R,4,none⟩=some (.bool false)∧w.cell? ⟨R,5,none⟩=some (.slice none 0 0))∧(∀i,w.frozen? ⟨R,i,none⟩=false):=
 ⟨⟨aa h 0,aa h 1,aa h 2,aa h 3,aa h 4,aa h 5⟩,fun i=>aK h i⟩
theorem vQ (m:Int) (s:ByteArray) (w:World) (hs:s.size≤1000000) (h0:0<w.heap.size) (hM:w.cell? ⟨0,0,none⟩=some (.int .i64 m)) (hc:s.data.toList.contains 47=false):Calls prog 56 #[.string s] w (cm s.data.toList w):=by
 have hcut:=fun (W:World) (hW:W.cell? ⟨0,0,none⟩=some (.int .i64 m))=>Tryz.strings_Cut s ⟨#[47]⟩ m W (by omega) hW
 have hcs:Lib.cut s.data.toList (⟨#[47]⟩:ByteArray).data.toList=(s.data.toList,[],false):=by
  have:=ow s.data.toList;rw[hc] at this;exact this
 rw[hcs] at hcut;simp only at hcut;have hsb:(⟨s.data.toList.toArray⟩:ByteArray)=s:=by apply ByteArray.ext;simp
 rw[hsb] at hcut;have hcn:=fun W=>bV s W hs
 have hM1:(w.alloc (.cells #[.int .i64 0,.bool false,.slice none 0 0,.int .i64 0,.bool false,.slice none 0 0] 75)).cell? ⟨0,0,none⟩=some (.int .i64 m):=(World.cell?_alloc_past _ _ _ h0).trans hM;have HBL:Hid (Below w.heap.size w (w.alloc (.cells #[.int .i64 0,.bool false,.slice none 0 0,.int .i64 0,.bool false,.slice none 0 0] 75))):=hid ((am _ _).alloc (aj _) _);have HRR:Hid ((w.alloc (.cells #[.int .i64 0,.bool false,.slice none 0 0,.int .i64 0,.bool false,.slice none 0 0] 75)).heap[w.heap.size]? =some (.cells #[.int .i64 0,.bool false,.slice none 0 0,.int .i64 0,.bool false,.slice none 0 0] 75 (0,0))):=hid (aq w _);have HF:=hid (xP hc);clear hcs hsb hM hc
 go_enter func56,ntmps56
 go_wp2_with fail
 refine (hcut _ hM1).mono ?_;rintro e w1 ⟨rfl,nq,rfl⟩;clear hM1 hcut
 go_wp2_with fail
 refine (hcn _).mono ?_;rintro e w2 ⟨v2,rfl,hv2,hb2⟩;have HV2:=hid hv2;obtain ⟨s1,b1,a1,n1,c1,rfl⟩:=aY hv2;have HB2:=hid ((aW HBL.out nq).trans (hb2.mono (by simp)));have HR2:=hid ((hb2.block w.heap.size (by simp)).trans HRR.out);clear hb2 hv2 hcn;have hlt:=ar HR2.out;generalize hok:(br s.data.toList).isSome=ok at *;have HOK:=hid hok;clear hok;have HR3:Hid ((w2.alloc (.cells #[.int .i64 s1,.bool b1,.slice a1 n1 c1] 73)).heap[w.heap.size]? =some (.cells #[.int .i64 0,.bool false,.slice none 0 0,.int .i64 0,.bool false,.slice none 0 0] 75 (0,0))):=hid ((Below.heap_alloc _ _ _ hlt).trans HR2.out);obtain ⟨⟨r0,r1,r2,r3,r4,r5⟩,fr⟩:=ResR.cells HR2.out;cases ok
 · have hn:br s.data.toList=none:=by have:=HOK.out;cases h:br s.data.toList with | none=>rfl | some z=>rw[h] at this;cases this
   have HZ:Hid (bp s.data.toList=none):=hid (by rw[HF.out,hn];rfl);have HV3:Hid (IV w2 (.agg #[.int .i64 s1,.bool b1,.slice a1 n1 c1]) ((0:Rat)).num):=hid (by have:=HV2.out;rw[hn] at this;exact this);clear hn
   go_wp2_with fail
   exact lS results56 rfl rfl rfl HR2.out HV3.out (dj _) HB2.out (aj _) (fun w3 v h1 h2=>⟨v,by rw[HZ.out];rfl,by rw[HZ.out];exact h1,h2⟩)
 · obtain ⟨z,hn⟩:∃z,br s.data.toList=some z:=by have:=HOK.out;cases h:br s.data.toList with | none=>rw[h] at this;cases this | some z=>exact ⟨z,rfl⟩
   have HZ:Hid (bp s.data.toList=some (z:Rat)):=hid (by rw[HF.out,hn];rfl);have HV3:Hid (IV w2 (.agg #[.int .i64 s1,.bool b1,.slice a1 n1 c1]) ((z:Rat)).num):=hid (by have:=HV2.out;rw[hn] at this;rw[Rat.num_intCast];exact this);have HD3:Hid (fE (z:Rat)=0):=hid (by unfold fE;rw[aF (Rat.den_intCast z)]);clear hn
   go_wp2_with fail
   exact lS results56 rfl rfl rfl HR2.out HV3.out (by rw[HD3.out];exact dj _) HB2.out (aj _) (fun w3 v h1 h2=>⟨v,by rw[HZ.out];rfl,by rw[HZ.out];exact h1,h2⟩)
def qW (n d:Int):Prop:=∀(x y:Value) (W:World),IV W x n→IV W y d→Calls prog 87 #[x,y] W (cD (Int.gcd n d) W)
structure PF (w wx:World) (N D:Nat) (s1:Int) (b1:Bool) (a1:Option Addr) (n1 c1:Nat) (s2:Int) (b2:Bool) (a2:Option Addr) (n2 c2:Nat) (n d:Int):Prop where
 hr:wx.heap[w.heap.size]? =some (.cells #[.int .i64 0,.bool false,.slice none 0 0,.int .i64 0,.bool false,.slice none 0 0] 75 (0,0))
 hn:wx.heap[N]? =some (.cells #[.int .i64 s1,.bool b1,.slice a1 n1 c1] 73 (0,0))
 hd:wx.heap[D]? =some (.cells #[.int .i64 s2,.bool b2,.slice a2 n2 c2] 73 (0,0))
 vn:IV wx (.agg #[.int .i64 s1,.bool b1,.slice a1 n1 c1]) n
 vd:IV wx (.agg #[.int .i64 s2,.bool b2,.slice a2 n2 c2]) d
 bel:Below w.heap.size w wx
section
variable {w wx w1:World} {N D:Nat} {s1:Int} {b1:Bool} {a1:Option Addr} {n1 c1:Nat} {s2:Int} {b2:Bool} {a2:Option Addr} {n2 c2:Nat} {n d:Int}
theorem PF.far (h:PF w wx N D s1 b1 a1 n1 c1 s2 b2 a2 n2 c2 n d) (hb:Below wx.heap.size wx w1):PF w w1 N D s1 b1 a1 n1 c1 s2 b2 a2 n2 c2 n d:=
 ⟨(hb.block _ (ar h.hr)).trans h.hr,(hb.block _ (ar h.hn)).trans h.hn,(hb.block _ (ar h.hd)).trans h.hd,h.vn.far hb,h.vd.far hb,h.bel.trans (hb.mono h.bel.size)⟩
theorem PF.cells (h:PF w wx N D s1 b1 a1 n1 c1 s2 b2 a2 n2 c2 n d):(wx.cell? ⟨N,0,none⟩=some (.int .i64 s1)∧wx.cell? ⟨N,1,none⟩=some (.bool b1)∧wx.cell? ⟨N,2,none⟩=some (.slice a1 n1 c1))∧(wx.cell? ⟨D,0,none⟩=some (.int .i64 s2)∧wx.cell? ⟨D,1,none⟩=some (.bool b2)∧wx.cell? ⟨D,2,none⟩=some (.slice a2 n2 c2)):=
 ⟨⟨aa h.hn 0,aa h.hn 1,aa h.hn 2⟩,⟨aa h.hd 0,aa h.hd 1,aa h.hd 2⟩⟩
end
theorem ez {l:List UInt8} (h:l.contains 47=true):(br (dB l)=none→bp l=none)∧(br (bC l)=none→bp l=none)∧∀n d,br (dB l)=some n→br (bC l)=some d→
    (d≤0∨d=1∨n=0∨Int.gcd n d≠1→bp l=none)∧(1<d→n≠0→Int.gcd n d=1→∃q,bp l=some q∧q.num=n∧fE q=d):=by
 unfold bp;rw[aB (by rw[h];simp)];refine ⟨fun h1=>by rw[h1],fun h1=>by rw[h1];cases br (dB l) <;> rfl,fun n d h1 h2=>?_⟩;rw[h1,h2];refine ⟨fun h3=>?_,fun h3 h4 h5=>?_⟩
 · simp only;rw[dif_neg];rintro ⟨g1,g2,g3⟩;rcases h3 with h3 | h3 | h3 | h3
   · omega
   · omega
   · exact g2 h3
   · exact h3 g3
 · simp only;rw[dif_pos ⟨h3,h4,h5⟩];refine ⟨_,rfl,rfl,?_⟩;unfold fE;simp only;rw[aB (by omega)];omega
theorem eA:
    (∀(m:Int) (s:ByteArray) (w:World) (_:s.size≤1000000) (_:0<w.heap.size) (_:w.cell? ⟨0,0,none⟩=some (.int .i64 m)) (_:s.data.toList.contains 47=true) (_:br (dB s.data.toList)=none),Calls prog 56 #[.string s] w (cm s.data.toList w))∧
    (∀(m:Int) (s:ByteArray) (w:World) (_:s.size≤1000000) (_:0<w.heap.size) (_:w.cell? ⟨0,0,none⟩=some (.int .i64 m)) (_:s.data.toList.contains 47=true) {n:Int} (_:br (dB s.data.toList)=some n) (_:br (bC s.data.toList)=none),Calls prog 56 #[.string s] w (cm s.data.toList w))∧
    (∀(m:Int) (s:ByteArray) (w:World) (_:s.size≤1000000) (_:0<w.heap.size) (_:w.cell? ⟨0,0,none⟩=some (.int .i64 m)) (_:s.data.toList.contains 47=true) {n d:Int} (_:br (dB s.data.toList)=some n) (_:br (bC s.data.toList)=some d) (_:d≤0),Calls prog 56 #[.string s] w (cm s.data.toList w))∧
    (∀(m:Int) (s:ByteArray) (w:World) (_:s.size≤1000000) (_:0<w.heap.size) (_:w.cell? ⟨0,0,none⟩=some (.int .i64 m)) (_:s.data.toList.contains 47=true) {n d:Int} (_:br (dB s.data.toList)=some n) (_:br (bC s.data.toList)=some d) (_:d=1),Calls prog 56 #[.string s] w (cm s.data.toList w))∧
    (∀(m:Int) (s:ByteArray) (w:World) (_:s.size≤1000000) (_:0<w.heap.size) (_:w.cell? ⟨0,0,none⟩=some (.int .i64 m)) (_:s.data.toList.contains 47=true) {n d:Int} (_:br (dB s.data.toList)=some n) (_:br (bC s.data.toList)=some d) (_:1<d) (_:n=0),Calls prog 56 #[.string s] w (cm s.data.toList w))∧
    (∀(m:Int) (s:ByteArray) (w:World) (_:s.size≤1000000) (_:0<w.heap.size) (_:w.cell? ⟨0,0,none⟩=some (.int .i64 m)) (_:s.data.toList.contains 47=true) {n d:Int} (_:br (dB s.data.toList)=some n) (_:br (bC s.data.toList)=some d) (_:1<d) (_:n≠0) (_:Int.gcd n d≠1) (_:qW n d),Calls prog 56 #[.string s] w (cm s.data.toList w))∧
    (∀(m:Int) (s:ByteArray) (w:World) (_:s.size≤1000000) (_:0<w.heap.size) (_:w.cell? ⟨0,0,none⟩=some (.int .i64 m)) (_:s.data.toList.contains 47=true) {n d:Int} (_:br (dB s.data.toList)=some n) (_:br (bC s.data.toList)=some d) (_:1<d) (_:n≠0) (_:Int.gcd n d=1) (_:qW n d),Calls prog 56 #[.string s] w (cm s.data.toList w)):=by
 refine ⟨?g1,?g2,?g3,?g4,?g5,?g6,?g7⟩
 focus
  intro m s w hs h0 hM hc hu1
 rotate_left
 focus
  intro m s w hs h0 hM hc n hu1 ht1
 rotate_left
 focus
  intro m s w hs h0 hM hc n d hu1 ht1 hd
 rotate_left
 focus
  intro m s w hs h0 hM hc n d hu1 ht1 hd
 rotate_left
 focus
  intro m s w hs h0 hM hc n d hu1 ht1 hd hn
 rotate_left
 focus
  intro m s w hs h0 hM hc n d hu1 ht1 hd hn hg hgcd
 rotate_left
 focus
  intro m s w hs h0 hM hc n d hu1 ht1 hd hn hg hgcd
 rotate_left
 all_goals
  have hcut:=fun (W:World) (hW:W.cell? ⟨0,0,none⟩=some (.int .i64 m))=>Tryz.strings_Cut s ⟨#[47]⟩ m W (by omega) hW
  have hcs:Lib.cut s.data.toList (⟨#[47]⟩:ByteArray).data.toList=(dB s.data.toList,bC s.data.toList,true):=by
   have:=ow s.data.toList;rw[hc] at this;exact this
  rw[hcs] at hcut;simp only at hcut;obtain ⟨u,hu⟩:∃u:ByteArray,(⟨(dB s.data.toList).toArray⟩:ByteArray)=u:=⟨_,rfl⟩
  obtain ⟨t,ht⟩:∃t:ByteArray,(⟨(bC s.data.toList).toArray⟩:ByteArray)=t:=⟨_,rfl⟩
  rw[hu,ht] at hcut;have hul:u.data.toList=dB s.data.toList:=by rw[←hu]
  have htl:t.data.toList=bC s.data.toList:=by rw[←ht]
  have hback:=congrArg List.length (qJ hc);rw[aE,aw,←hul,←htl,size_data,size_data,size_data] at hback;have hcu:=fun W=>bV u W (by omega)
 rotate_left
 focus
  have hct:=fun W=>bV t W (by omega)
 rotate_left
 focus
  have hct:=fun W=>bV t W (by omega)
 rotate_left
 focus
  have hct:=fun W=>bV t W (by omega)
 rotate_left
 focus
  have hct:=fun W=>bV t W (by omega)
 rotate_left
 focus
  have hct:=fun W=>bV t W (by omega)
 rotate_left
 focus
  have hct:=fun W=>bV t W (by omega)
 rotate_left
 all_goals
  rw[hul] at hcu
 rotate_left
 focus
  rw[htl] at hct
 rotate_left
 focus
  rw[htl] at hct
 rotate_left
 focus
  rw[htl] at hct
 rotate_left
 focus
  rw[htl] at hct
 rotate_left
 focus
  rw[htl] at hct
 rotate_left
 focus
  rw[htl] at hct
 rotate_left
 all_goals
  have HU:=hid hu1
 focus
  have HZ:=hid ((ez hc).1 hu1);clear hu1
 rotate_left
 focus
  have HT:=hid ht1;have HZ:=hid ((ez hc).2.1 ht1);clear hu1 ht1
 rotate_left
 focus
  have HT:=hid ht1;have hsg:dd d≤0:=by unfold dd;grind
  have HZ:=hid (((ez hc).2.2 n d hu1 ht1).1 (.inl hd));clear hd;clear hu1 ht1
 rotate_left
 focus
  have HT:=hid ht1;have hsg:¬dd d≤0:=by rw[hd];decide
  have HZ:=hid (((ez hc).2.2 n d hu1 ht1).1 (.inr (.inl hd)));have hd1:decide (d=1)=true:=aH hd;clear hd;clear hu1 ht1
 rotate_left
 focus
  have HT:=hid ht1;have hsg:¬dd d≤0:=by unfold dd;grind
  have HZ:=hid (((ez hc).2.2 n d hu1 ht1).1 (.inr (.inr (.inl hn))));have hd1:decide (d=1)=false:=aD (by omega);have hn1:decide (n=0)=true:=aH hn;clear hd hn;clear hu1 ht1
 rotate_left
 focus
  have HT:=hid ht1;have hsg:¬dd d≤0:=by unfold dd;grind
  have HZ:=hid (((ez hc).2.2 n d hu1 ht1).1 (.inr (.inr (.inr hg))));have hd1:decide (d=1)=false:=aD (by omega);have hn1:decide (n=0)=false:=aD hn;have hg1:decide ((Int.gcd n d:Int)=1)=false:=aD (by omega);clear hd hn hg;clear hu1 ht1
 rotate_left
 focus
  have HT:=hid ht1;have hsg:¬dd d≤0:=by unfold dd;grind
  obtain ⟨q,z1,z2,z3⟩:=((ez hc).2.2 n d hu1 ht1).2 hd hn hg;have HZ:=hid z1;have HZ2:=hid z2;have HZ3:=hid z3;have hd1:decide (d=1)=false:=aD (by omega);have hn1:decide (n=0)=false:=aD hn;have hg1:decide ((Int.gcd n d:Int)=1)=true:=aH (by omega);clear hd hn hg z1 z2 z3;clear hu1 ht1
 rotate_left
 all_goals
  have hM1:(w.alloc (.cells #[.int .i64 0,.bool false,.slice none 0 0,.int .i64 0,.bool false,.slice none 0 0] 75)).cell? ⟨0,0,none⟩=some (.int .i64 m):=(World.cell?_alloc_past _ _ _ h0).trans hM;have HBL:Hid (Below w.heap.size w (w.alloc (.cells #[.int .i64 0,.bool false,.slice none 0 0,.int .i64 0,.bool false,.slice none 0 0] 75))):=hid ((am _ _).alloc (aj _) _);have HRR:Hid ((w.alloc (.cells #[.int .i64 0,.bool false,.slice none 0 0,.int .i64 0,.bool false,.slice none 0 0] 75)).heap[w.heap.size]? =some (.cells #[.int .i64 0,.bool false,.slice none 0 0,.int .i64 0,.bool false,.slice none 0 0] 75 (0,0))):=hid (aq w _);clear hcs hM hc hback hul htl hu ht hs
  go_enter func56,ntmps56
  go_wp2_with fail
  refine (hcut _ hM1).mono ?_;rintro e w1 ⟨rfl,nq,rfl⟩;clear hM1 hcut
  go_wp2_with fail
  refine (hcu _).mono ?_;rintro e w2 ⟨v2,rfl,hv2,hb2⟩;have HV2:=hid hv2;obtain ⟨s1,b1,a1,n1,c1,rfl⟩:=aY hv2;have HB2:=hid ((aW HBL.out nq).trans (hb2.mono (by simp)));have HR2:=hid ((hb2.block w.heap.size (by simp)).trans HRR.out);clear hb2 hv2 hcu;have hlt:=ar HR2.out;rw[HU.out] at HV2;simp only[HU.out]
 focus
  obtain ⟨⟨r0,r1,r2,r3,r4,r5⟩,fr⟩:=ResR.cells HR2.out
 rotate_left
 focus
  have HR3:=hid ((Below.heap_alloc w2 (.cells #[.int .i64 s1,.bool b1,.slice a1 n1 c1] 73) _ hlt).trans HR2.out);have HN3:=hid (aq w2 (.cells #[.int .i64 s1,.bool b1,.slice a1 n1 c1] 73));have HV3:=hid (HV2.out.alloc_of (.cells #[.int .i64 s1,.bool b1,.slice a1 n1 c1] 73));have HB3:=hid (HB2.out.alloc HB2.out.size (.cells #[.int .i64 s1,.bool b1,.slice a1 n1 c1] 73))
 rotate_left
 focus
  have HR3:=hid ((Below.heap_alloc w2 (.cells #[.int .i64 s1,.bool b1,.slice a1 n1 c1] 73) _ hlt).trans HR2.out);have HN3:=hid (aq w2 (.cells #[.int .i64 s1,.bool b1,.slice a1 n1 c1] 73));have HV3:=hid (HV2.out.alloc_of (.cells #[.int .i64 s1,.bool b1,.slice a1 n1 c1] 73));have HB3:=hid (HB2.out.alloc HB2.out.size (.cells #[.int .i64 s1,.bool b1,.slice a1 n1 c1] 73))
 rotate_left
 focus
  have HR3:=hid ((Below.heap_alloc w2 (.cells #[.int .i64 s1,.bool b1,.slice a1 n1 c1] 73) _ hlt).trans HR2.out);have HN3:=hid (aq w2 (.cells #[.int .i64 s1,.bool b1,.slice a1 n1 c1] 73));have HV3:=hid (HV2.out.alloc_of (.cells #[.int .i64 s1,.bool b1,.slice a1 n1 c1] 73));have HB3:=hid (HB2.out.alloc HB2.out.size (.cells #[.int .i64 s1,.bool b1,.slice a1 n1 c1] 73))
 rotate_left
 focus
  have HR3:=hid ((Below.heap_alloc w2 (.cells #[.int .i64 s1,.bool b1,.slice a1 n1 c1] 73) _ hlt).trans HR2.out);have HN3:=hid (aq w2 (.cells #[.int .i64 s1,.bool b1,.slice a1 n1 c1] 73));have HV3:=hid (HV2.out.alloc_of (.cells #[.int .i64 s1,.bool b1,.slice a1 n1 c1] 73));have HB3:=hid (HB2.out.alloc HB2.out.size (.cells #[.int .i64 s1,.bool b1,.slice a1 n1 c1] 73))
 rotate_left
 focus
  have HR3:=hid ((Below.heap_alloc w2 (.cells #[.int .i64 s1,.bool b1,.slice a1 n1 c1] 73) _ hlt).trans HR2.out);have HN3:=hid (aq w2 (.cells #[.int .i64 s1,.bool b1,.slice a1 n1 c1] 73));have HV3:=hid (HV2.out.alloc_of (.cells #[.int .i64 s1,.bool b1,.slice a1 n1 c1] 73));have HB3:=hid (HB2.out.alloc HB2.out.size (.cells #[.int .i64 s1,.bool b1,.slice a1 n1 c1] 73))
 rotate_left
 focus
  have HR3:=hid ((Below.heap_alloc w2 (.cells #[.int .i64 s1,.bool b1,.slice a1 n1 c1] 73) _ hlt).trans HR2.out);have HN3:=hid (aq w2 (.cells #[.int .i64 s1,.bool b1,.slice a1 n1 c1] 73));have HV3:=hid (HV2.out.alloc_of (.cells #[.int .i64 s1,.bool b1,.slice a1 n1 c1] 73));have HB3:=hid (HB2.out.alloc HB2.out.size (.cells #[.int .i64 s1,.bool b1,.slice a1 n1 c1] 73))
 rotate_left
 all_goals
  go_wp2_with fail
 · exact lS results56 rfl rfl rfl HR2.out HV2.out (dj _) HB2.out (aj _) (fun w3 v h1 h2=>⟨v,by rw[HZ.out];rfl,by rw[HZ.out];exact h1,h2⟩)
 · refine (hct _).mono ?_;rintro e w4 ⟨v4,rfl,hv4,hb4⟩;have HV4:=hid hv4;obtain ⟨s2,b2,a2,n2,c2,rfl⟩:=aY hv4;have HR4:=hid ((hb4.block _ (ar HR3.out)).trans HR3.out);have HN4:=hid ((hb4.block _ (ar HN3.out)).trans HN3.out);have HV34:=hid (HV3.out.far hb4);have HB4:=hid (HB3.out.trans (hb4.mono HB3.out.size));clear hb4 hv4 hct;rw[HT.out] at HV4;simp only[HT.out];have HPF:Hid (PF w (w4.alloc (.cells #[.int .i64 s2,.bool b2,.slice a2 n2 c2] 73)) w2.heap.size w4.heap.size s1 b1 a1 n1 c1 s2 b2 a2 n2 c2 ((some n).getD 0) ((none:Option Int).getD 0)):=hid ⟨(Below.heap_alloc w4 _ _ (ar HR4.out)).trans HR4.out,(Below.heap_alloc w4 _ _ (ar HN4.out)).trans HN4.out,aq w4 _,HV34.out.alloc_of _,HV4.out.alloc_of _,HB4.out.alloc HB4.out.size _⟩;clear HR3 HN3 HV3 HB3 HV34 HV2 HB2 HR2;have hlt4:=ar HR4.out;obtain ⟨⟨r0,r1,r2,r3,r4,r5⟩,fr⟩:=ResR.cells HR4.out
   go_wp2_with fail
   exact lS (q:=0) results56 rfl rfl rfl HR4.out (dj _) (dj _) HB4.out (aj _) (fun w3 v h1 h2=>⟨v,by rw[HZ.out];rfl,by rw[HZ.out];exact h1,h2⟩)
 · refine (hct _).mono ?_;rintro e w4 ⟨v4,rfl,hv4,hb4⟩;have HV4:=hid hv4;obtain ⟨s2,b2,a2,n2,c2,rfl⟩:=aY hv4;have HR4:=hid ((hb4.block _ (ar HR3.out)).trans HR3.out);have HN4:=hid ((hb4.block _ (ar HN3.out)).trans HN3.out);have HV34:=hid (HV3.out.far hb4);have HB4:=hid (HB3.out.trans (hb4.mono HB3.out.size));clear hb4 hv4 hct;rw[HT.out] at HV4;simp only[HT.out];have HPF:Hid (PF w (w4.alloc (.cells #[.int .i64 s2,.bool b2,.slice a2 n2 c2] 73)) w2.heap.size w4.heap.size s1 b1 a1 n1 c1 s2 b2 a2 n2 c2 ((some n).getD 0) ((some d).getD 0)):=hid ⟨(Below.heap_alloc w4 _ _ (ar HR4.out)).trans HR4.out,(Below.heap_alloc w4 _ _ (ar HN4.out)).trans HN4.out,aq w4 _,HV34.out.alloc_of _,HV4.out.alloc_of _,HB4.out.alloc HB4.out.size _⟩;clear HR3 HN3 HV3 HB3 HV34 HV2 HB2 HR2
   go_wp2_with fail
   refine (fD _ _ _ HPF.out.vd).mono ?_;rintro e w5 ⟨rfl,hb5⟩;have HP5:=hid (HPF.out.far hb5);clear hb5;obtain ⟨⟨x0,x1,x2⟩,⟨y0,y1,y2⟩⟩:=HP5.out.cells;clear HR4 HN4 HB4 HV4 HPF;obtain ⟨⟨r0,r1,r2,r3,r4,r5⟩,fr⟩:=ResR.cells HP5.out.hr
   go_wp2_with fail
   exact mB (q:=0) results56 rfl rfl rfl HP5.out.hr (dj _) (dj _) HP5.out.bel (aj _) (fun w3 v h1 h2=>⟨v,by rw[HZ.out];rfl,by rw[HZ.out];exact h1,h2⟩)
 · refine (hct _).mono ?_;rintro e w4 ⟨v4,rfl,hv4,hb4⟩;have HV4:=hid hv4;obtain ⟨s2,b2,a2,n2,c2,rfl⟩:=aY hv4;have HR4:=hid ((hb4.block _ (ar HR3.out)).trans HR3.out);have HN4:=hid ((hb4.block _ (ar HN3.out)).trans HN3.out);have HV34:=hid (HV3.out.far hb4);have HB4:=hid (HB3.out.trans (hb4.mono HB3.out.size));clear hb4 hv4 hct;rw[HT.out] at HV4;simp only[HT.out];have HPF:Hid (PF w (w4.alloc (.cells #[.int .i64 s2,.bool b2,.slice a2 n2 c2] 73)) w2.heap.size w4.heap.size s1 b1 a1 n1 c1 s2 b2 a2 n2 c2 ((some n).getD 0) ((some d).getD 0)):=hid ⟨(Below.heap_alloc w4 _ _ (ar HR4.out)).trans HR4.out,(Below.heap_alloc w4 _ _ (ar HN4.out)).trans HN4.out,aq w4 _,HV34.out.alloc_of _,HV4.out.alloc_of _,HB4.out.alloc HB4.out.size _⟩;clear HR3 HN3 HV3 HB3 HV34 HV2 HB2 HR2
   go_wp2_with fail
   refine (fD _ _ _ HPF.out.vd).mono ?_;rintro e w5 ⟨rfl,hb5⟩;have HP5:=hid (HPF.out.far hb5);clear hb5;obtain ⟨⟨x0,x1,x2⟩,⟨y0,y1,y2⟩⟩:=HP5.out.cells;clear HR4 HN4 HB4 HV4 HPF
   go_wp2_with fail
   refine (fe _ _ _ HP5.out.vd).mono ?_;rintro e w6 ⟨rfl,hb6⟩;have HP6:=hid (HP5.out.far hb6);clear hb6;clear x0 x1 x2 y0 y1 y2 HP5;obtain ⟨⟨x0,x1,x2⟩,⟨y0,y1,y2⟩⟩:=HP6.out.cells;obtain ⟨⟨r0,r1,r2,r3,r4,r5⟩,fr⟩:=ResR.cells HP6.out.hr
   go_wp2_with fail
   exact mB (q:=0) results56 rfl rfl rfl HP6.out.hr (dj _) (dj _) HP6.out.bel (aj _) (fun w3 v h1 h2=>⟨v,by rw[HZ.out];rfl,by rw[HZ.out];exact h1,h2⟩)
 · refine (hct _).mono ?_;rintro e w4 ⟨v4,rfl,hv4,hb4⟩;have HV4:=hid hv4;obtain ⟨s2,b2,a2,n2,c2,rfl⟩:=aY hv4;have HR4:=hid ((hb4.block _ (ar HR3.out)).trans HR3.out);have HN4:=hid ((hb4.block _ (ar HN3.out)).trans HN3.out);have HV34:=hid (HV3.out.far hb4);have HB4:=hid (HB3.out.trans (hb4.mono HB3.out.size));clear hb4 hv4 hct;rw[HT.out] at HV4;simp only[HT.out];have HPF:Hid (PF w (w4.alloc (.cells #[.int .i64 s2,.bool b2,.slice a2 n2 c2] 73)) w2.heap.size w4.heap.size s1 b1 a1 n1 c1 s2 b2 a2 n2 c2 ((some n).getD 0) ((some d).getD 0)):=hid ⟨(Below.heap_alloc w4 _ _ (ar HR4.out)).trans HR4.out,(Below.heap_alloc w4 _ _ (ar HN4.out)).trans HN4.out,aq w4 _,HV34.out.alloc_of _,HV4.out.alloc_of _,HB4.out.alloc HB4.out.size _⟩;clear HR3 HN3 HV3 HB3 HV34 HV2 HB2 HR2
   go_wp2_with fail
   refine (fD _ _ _ HPF.out.vd).mono ?_;rintro e w5 ⟨rfl,hb5⟩;have HP5:=hid (HPF.out.far hb5);clear hb5;obtain ⟨⟨x0,x1,x2⟩,⟨y0,y1,y2⟩⟩:=HP5.out.cells;clear HR4 HN4 HB4 HV4 HPF
   go_wp2_with fail
   refine (fe _ _ _ HP5.out.vd).mono ?_;rintro e w6 ⟨rfl,hb6⟩;have HP6:=hid (HP5.out.far hb6);clear hb6;clear x0 x1 x2 y0 y1 y2 HP5;obtain ⟨⟨x0,x1,x2⟩,⟨y0,y1,y2⟩⟩:=HP6.out.cells
   go_wp2_with fail
   refine (dV _ _ _ HP6.out.vn).mono ?_;rintro e w7 ⟨rfl,hb7⟩;have HP7:=hid (HP6.out.far hb7);clear hb7;clear x0 x1 x2 y0 y1 y2 HP6;obtain ⟨⟨x0,x1,x2⟩,⟨y0,y1,y2⟩⟩:=HP7.out.cells;obtain ⟨⟨r0,r1,r2,r3,r4,r5⟩,fr⟩:=ResR.cells HP7.out.hr
   go_wp2_with fail
   exact mB (q:=0) results56 rfl rfl rfl HP7.out.hr (dj _) (dj _) HP7.out.bel (aj _) (fun w3 v h1 h2=>⟨v,by rw[HZ.out];rfl,by rw[HZ.out];exact h1,h2⟩)
 · refine (hct _).mono ?_;rintro e w4 ⟨v4,rfl,hv4,hb4⟩;have HV4:=hid hv4;obtain ⟨s2,b2,a2,n2,c2,rfl⟩:=aY hv4;have HR4:=hid ((hb4.block _ (ar HR3.out)).trans HR3.out);have HN4:=hid ((hb4.block _ (ar HN3.out)).trans HN3.out);have HV34:=hid (HV3.out.far hb4);have HB4:=hid (HB3.out.trans (hb4.mono HB3.out.size));clear hb4 hv4 hct;rw[HT.out] at HV4;simp only[HT.out];have HPF:Hid (PF w (w4.alloc (.cells #[.int .i64 s2,.bool b2,.slice a2 n2 c2] 73)) w2.heap.size w4.heap.size s1 b1 a1 n1 c1 s2 b2 a2 n2 c2 ((some n).getD 0) ((some d).getD 0)):=hid ⟨(Below.heap_alloc w4 _ _ (ar HR4.out)).trans HR4.out,(Below.heap_alloc w4 _ _ (ar HN4.out)).trans HN4.out,aq w4 _,HV34.out.alloc_of _,HV4.out.alloc_of _,HB4.out.alloc HB4.out.size _⟩;clear HR3 HN3 HV3 HB3 HV34 HV2 HB2 HR2
   go_wp2_with fail
   refine (fD _ _ _ HPF.out.vd).mono ?_;rintro e w5 ⟨rfl,hb5⟩;have HP5:=hid (HPF.out.far hb5);clear hb5;obtain ⟨⟨x0,x1,x2⟩,⟨y0,y1,y2⟩⟩:=HP5.out.cells;clear HR4 HN4 HB4 HV4 HPF
   go_wp2_with fail
   refine (fe _ _ _ HP5.out.vd).mono ?_;rintro e w6 ⟨rfl,hb6⟩;have HP6:=hid (HP5.out.far hb6);clear hb6;clear x0 x1 x2 y0 y1 y2 HP5;obtain ⟨⟨x0,x1,x2⟩,⟨y0,y1,y2⟩⟩:=HP6.out.cells
   go_wp2_with fail
   refine (dV _ _ _ HP6.out.vn).mono ?_;rintro e w7 ⟨rfl,hb7⟩;have HP7:=hid (HP6.out.far hb7);clear hb7;clear x0 x1 x2 y0 y1 y2 HP6;obtain ⟨⟨x0,x1,x2⟩,⟨y0,y1,y2⟩⟩:=HP7.out.cells
   go_wp2_with fail
   refine (hgcd _ _ _ HP7.out.vn HP7.out.vd).mono ?_;rintro e w8 ⟨v8,rfl,hv8,hb8⟩;have HV8:=hid hv8;obtain ⟨s8,b8,a8,n8,c8,rfl⟩:=aY hv8;have HP8:=hid (HP7.out.far hb8);clear x0 x1 x2 y0 y1 y2 HP7 hv8 hb8
   go_wp2_with fail
   refine (fe _ _ _ HV8.out).mono ?_;rintro e w9 ⟨rfl,hb9⟩;have HP9:=hid (HP8.out.far hb9);clear HP8 hb9;obtain ⟨⟨x0,x1,x2⟩,⟨y0,y1,y2⟩⟩:=HP9.out.cells;obtain ⟨⟨r0,r1,r2,r3,r4,r5⟩,fr⟩:=ResR.cells HP9.out.hr
   go_wp2_with fail
   exact mB (q:=0) results56 rfl rfl rfl HP9.out.hr (dj _) (dj _) HP9.out.bel (aj _) (fun w3 v h1 h2=>⟨v,by rw[HZ.out];rfl,by rw[HZ.out];exact h1,h2⟩)
 · refine (hct _).mono ?_;rintro e w4 ⟨v4,rfl,hv4,hb4⟩;have HV4:=hid hv4;obtain ⟨s2,b2,a2,n2,c2,rfl⟩:=aY hv4;have HR4:=hid ((hb4.block _ (ar HR3.out)).trans HR3.out);have HN4:=hid ((hb4.block _ (ar HN3.out)).trans HN3.out);have HV34:=hid (HV3.out.far hb4);have HB4:=hid (HB3.out.trans (hb4.mono HB3.out.size));clear hb4 hv4 hct;rw[HT.out] at HV4;simp only[HT.out];have HPF:Hid (PF w (w4.alloc (.cells #[.int .i64 s2,.bool b2,.slice a2 n2 c2] 73)) w2.heap.size w4.heap.size s1 b1 a1 n1 c1 s2 b2 a2 n2 c2 ((some n).getD 0) ((some d).getD 0)):=hid ⟨(Below.heap_alloc w4 _ _ (ar HR4.out)).trans HR4.out,(Below.heap_alloc w4 _ _ (ar HN4.out)).trans HN4.out,aq w4 _,HV34.out.alloc_of _,HV4.out.alloc_of _,HB4.out.alloc HB4.out.size _⟩;clear HR3 HN3 HV3 HB3 HV34 HV2 HB2 HR2
   go_wp2_with fail
   refine (fD _ _ _ HPF.out.vd).mono ?_;rintro e w5 ⟨rfl,hb5⟩;have HP5:=hid (HPF.out.far hb5);clear hb5;obtain ⟨⟨x0,x1,x2⟩,⟨y0,y1,y2⟩⟩:=HP5.out.cells;clear HR4 HN4 HB4 HV4 HPF
   go_wp2_with fail
   refine (fe _ _ _ HP5.out.vd).mono ?_;rintro e w6 ⟨rfl,hb6⟩;have HP6:=hid (HP5.out.far hb6);clear hb6;clear x0 x1 x2 y0 y1 y2 HP5;obtain ⟨⟨x0,x1,x2⟩,⟨y0,y1,y2⟩⟩:=HP6.out.cells
   go_wp2_with fail
   refine (dV _ _ _ HP6.out.vn).mono ?_;rintro e w7 ⟨rfl,hb7⟩;have HP7:=hid (HP6.out.far hb7);clear hb7;clear x0 x1 x2 y0 y1 y2 HP6;obtain ⟨⟨x0,x1,x2⟩,⟨y0,y1,y2⟩⟩:=HP7.out.cells
   go_wp2_with fail
   refine (hgcd _ _ _ HP7.out.vn HP7.out.vd).mono ?_;rintro e w8 ⟨v8,rfl,hv8,hb8⟩;have HV8:=hid hv8;obtain ⟨s8,b8,a8,n8,c8,rfl⟩:=aY hv8;have HP8:=hid (HP7.out.far hb8);clear x0 x1 x2 y0 y1 y2 HP7 hv8 hb8
   go_wp2_with fail
   refine (fe _ _ _ HV8.out).mono ?_;rintro e w9 ⟨rfl,hb9⟩;have HP9:=hid (HP8.out.far hb9);clear HP8 hb9;obtain ⟨⟨x0,x1,x2⟩,⟨y0,y1,y2⟩⟩:=HP9.out.cells;obtain ⟨⟨r0,r1,r2,r3,r4,r5⟩,fr⟩:=ResR.cells HP9.out.hr
   go_wp2_with fail
   exact mB (q:=q) results56 rfl rfl rfl HP9.out.hr (by rw[HZ2.out];exact HP9.out.vn) (by rw[HZ3.out];exact HP9.out.vd) HP9.out.bel (aj _) (fun w3 v h1 h2=>⟨v,by rw[HZ.out];rfl,by rw[HZ.out];exact h1,h2⟩)
theorem vR (m:Int) (s:ByteArray) (w:World) (hs:s.size≤1000000) (h0:0<w.heap.size) (hM:w.cell? ⟨0,0,none⟩=some (.int .i64 m))
    (hg:∀n d,br (dB s.data.toList)=some n→br (bC s.data.toList)=some d→1<d→qW n d):Calls prog 56 #[.string s] w (cm s.data.toList w):=by
 by_cases hc:s.data.toList.contains 47=true
 · cases hu:br (dB s.data.toList) with
   | none=>exact eA.1 m s w hs h0 hM hc hu
   | some n=>
     cases ht:br (bC s.data.toList) with
     | none=>exact eA.2.1 m s w hs h0 hM hc hu ht
     | some d=>
       by_cases h1:d≤0
       · exact eA.2.2.1 m s w hs h0 hM hc hu ht h1
       · by_cases h2:d=1
         · exact eA.2.2.2.1 m s w hs h0 hM hc hu ht h2
         · by_cases h3:n=0
           · exact eA.2.2.2.2.1 m s w hs h0 hM hc hu ht (by omega) h3
           · by_cases h4:Int.gcd n d=1
             · exact eA.2.2.2.2.2.2 m s w hs h0 hM hc hu ht (by omega) h3 h4 (hg n d hu ht (by omega))
             · exact eA.2.2.2.2.2.1 m s w hs h0 hM hc hu ht (by omega) h3 h4 (hg n d hu ht (by omega))
 · exact vQ m s w hs h0 hM (by simpa using hc)
end Go.Proofs.YtpkfnnkbfphfbaaGreatDoor

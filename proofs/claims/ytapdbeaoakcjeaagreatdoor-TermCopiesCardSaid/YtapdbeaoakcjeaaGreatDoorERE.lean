/- The reference's parse. -/
import Derived.Test.YtapdbeaoakcjeaaGreatDoorERB
import Derived.Test.YtapdbeaoakcjeaaGreatDoorENC
import Derived.Deep.CutBlock
set_option maxRecDepth 100000
set_option maxHeartbeats 40000000
open Go.Lib (hid)
namespace Go.Proofs.YtapdbeaoakcjeaaGreatDoor
open Go.RowKit Nmx
open Rf
structure PX (w wx:World) (neg:Bool) (num den:ByteArray):Prop where
 r:wx.heap[w.heap.size]? =some (.cells #[.bool false,.string ⟨#[]⟩,.string ⟨#[]⟩] 149 (0,0))
 x:wx.heap[w.heap.size+1]? =some (.cells #[.bool neg,.string num,.string den] 149 (0,0))
 bel:Below w.heap.size w wx
theorem PX.far {w wx w1:World} {neg:Bool} {num den:ByteArray} (h:PX w wx neg num den) (hb:Below wx.heap.size wx w1):PX w w1 neg num den:=
 ⟨(hb.block _ (ay h.r)).trans h.r,(hb.block _ (ay h.x)).trans h.x,h.bel.trans (hb.mono h.bel.size)⟩
theorem PX.new (w:World) (neg:Bool) (den:ByteArray) (o:Obj) (ho:o=.cells #[.bool false,.string ⟨#[]⟩,.string ⟨#[]⟩] 149):
    PX w ((w.alloc o).alloc (.cells #[.bool neg,.string ⟨#[]⟩,.string den] 149)) neg ⟨#[]⟩ den:=by
 subst ho;refine ⟨?_,?_,?_⟩
 · rw[Below.heap_alloc _ _ _ (by simp)];exact heap_alloc_new w _
 · have:=heap_alloc_new (w.alloc (.cells #[.bool false,.string ⟨#[]⟩,.string ⟨#[]⟩] 149)) (.cells #[.bool neg,.string ⟨#[]⟩,.string den] 149)
   simpa using this
 · exact ((ah w.heap.size w).alloc (ag _) _).alloc (by simp) _
theorem PX.set {w wx:World} {neg:Bool} {num den:ByteArray} (h:PX w wx neg num den) (i:Nat) (v:Value) {neg':Bool} {num' den':ByteArray} (hv:(#[Value.bool neg,.string num,.string den]:Array Value).setIfInBounds i v=#[.bool neg',.string num',.string den']):
    PX w (wx.setCell ⟨w.heap.size+1,i,none⟩ v) neg' num' den':=by
 refine ⟨?_,?_,?_⟩
 · rw[aB _ _ _ _ (by simp)];exact h.r
 · rw[←hv];exact heap_set h.x i v
 · exact h.bel.setCell (show w.heap.size≤(⟨w.heap.size+1,i,none⟩:Addr).block from Nat.le_succ _) _
theorem PX.cells {w wx:World} {neg:Bool} {num den:ByteArray} (h:PX w wx neg num den):wx.cell? ⟨w.heap.size+1,0,none⟩=some (.bool neg)∧wx.cell? ⟨w.heap.size+1,1,none⟩=some (.string num)∧wx.cell? ⟨w.heap.size+1,2,none⟩=some (.string den):=
 ⟨ac h.x 0,ac h.x 1,ac h.x 2⟩
theorem PX.fz {w wx:World} {neg:Bool} {num den:ByteArray} (h:PX w wx neg num den) (i:Nat):wx.frozen? ⟨w.heap.size+1,i,none⟩=false:=aM h.x i
theorem PX.drew {w wx:World} {neg:Bool} {num den:ByteArray} (h:PX w wx neg num den):PX w wx.drew neg num den:=⟨h.r,h.x,h.bel.drew⟩
theorem PX.drewN {w wx:World} {neg:Bool} {num den:ByteArray} (h:PX w wx neg num den) (n:Nat):PX w (wx.drewN n) neg num den:=⟨h.r,h.x,aO h.bel n⟩
def NoSl (l:List UInt8) (k:Nat):Prop:=∀x∈l.take k,(x !=47)=true
theorem NoSl.zero (l:List UInt8):NoSl l 0:=by unfold NoSl;simp
theorem NoSl.step {s:ByteArray} {k:Nat} (h:NoSl s.data.toList k) (hk:k<s.size) (hc:s[k]≠47):NoSl s.data.toList (k+1):=fun x hx=>by
 rw[List.take_add_one,byte_at s k hk] at hx;simp only[Option.toList,List.mem_append,List.mem_singleton] at hx;rcases hx with hx | hx
 · exact h x hx
 · subst hx;simpa using hc
theorem NoSl.all {s:ByteArray} (h:NoSl s.data.toList s.size):upto s.data.toList=s.data.toList∧iG s.data.toList=[49]:=by
 have h1:∀x∈s.data.toList,(x !=47)=true:=by
  have h2:=h;unfold NoSl at h2;rwa [aJ (by rw[size_data];exact ag _)] at h2
 exact ⟨sC h1,by unfold iG;rw[gR h1];rfl⟩
theorem NoSl.at_ {s:ByteArray} {k:Nat} (h:NoSl s.data.toList k) (hk:k<s.size) (hc:s[k]=47):upto s.data.toList=(s.extract 0 k).data.toList∧iG s.data.toList=(s.extract (k+1) s.size).data.toList:=by
 have e:s.data.toList=s.data.toList.take k++47::s.data.toList.drop (k+1):=by
  conv=>lhs;rw[←List.take_append_drop k s.data.toList]
  rw[List.drop_eq_getElem_cons (by rw[size_data];exact hk)]
  congr 2
 obtain ⟨h1,h2,h3⟩:=q7 (b:=s.data.toList.drop (k+1)) h;rw[←e] at h1 h2 h3;rw[ex_data,ex_data];refine ⟨by rw[h1];simp,?_⟩;unfold iG;rw[if_pos h3,h2,aJ (by rw[List.length_drop,size_data];omega)]
theorem vP (s:ByteArray) (h0:0<s.size) (h:s[0]=45):(s.extract 1 s.size).data.toList=bJ s.data.toList∧sgB s.data.toList=true:=by
 have hh:s.data.toList.head? =some 45:=by rw[List.head?_eq_getElem?,byte_at s 0 h0,h]
 have hs:sgB s.data.toList=true:=by unfold sgB;rw[hh];rfl
 refine ⟨?_,hs⟩;unfold bJ;rw[if_pos hs,ex_data,aJ (by rw[List.length_drop,size_data];omega),List.drop_one]
theorem vQ (s:ByteArray) (h0:0<s.size) (h:s[0]≠45):s.data.toList=bJ s.data.toList∧sgB s.data.toList=false:=by
 have hh:s.data.toList.head? =some s[0]:=by rw[List.head?_eq_getElem?,byte_at s 0 h0]
 have hs:sgB s.data.toList=false:=by unfold sgB;rw[hh];simpa using h
 refine ⟨?_,hs⟩;unfold bJ;rw[hs];rfl
def zC:Option Rat→Value
 | some q=>jy q
 | none=>.agg #[.bool false,.string ⟨#[]⟩,.string ⟨#[]⟩]
def me (a:List UInt8) (w:World) (e:Ending) (w':World):Prop:=e=.returned (.tuple #[zC (bA a),.bool (bA a).isSome])∧Below w.heap.size w w'
theorem fu {fn:Func} {t t1:Tmp} {bb:Bool} {a:Act} {w w2:World} {neg:Bool} {num den:ByteArray} {v0 v1 v2:Value} {Q:Ending→World→Prop} (hres:fn.results=#[.cell t 149,.tmp t1]) (hd:a.defers=[]) (ht:a.tmps.getD t undef=.pointer (some ⟨w.heap.size,0,none⟩)) (ht1:a.tmps.getD t1 undef=.bool bb)
    (hp:PX w w2 neg num den) (hQ:∀w3,Below w.heap.size w w3→Q (.returned (.tuple #[.agg #[v0,v1,v2],.bool bb])) w3):
    bodyPost Tryz.prog fn Q .ret a (((w2.setCell ⟨w.heap.size,0,none⟩ v0).setCell ⟨w.heap.size,1,none⟩ v1).setCell ⟨w.heap.size,2,none⟩ v2):=by
 have h3:=yB (x:=v0) (y:=v1) (z:=v2) hp.r;have hbl:=((hp.bel.setCell (show w.heap.size≤(⟨w.heap.size,0,none⟩:Addr).block from ag _) v0).setCell (show w.heap.size≤(⟨w.heap.size,1,none⟩:Addr).block from ag _) v1).setCell (show w.heap.size≤(⟨w.heap.size,2,none⟩:Addr).block from ag _) v2;generalize ((w2.setCell ⟨w.heap.size,0,none⟩ v0).setCell ⟨w.heap.size,1,none⟩ v1).setCell ⟨w.heap.size,2,none⟩ v2=w3 at *;have k0:=ac h3 0;have k1:=ac h3 1;have k2:=ac h3 2
 simp at k0 k1 k2
 refine bodyPost_ret (v:=.tuple #[.agg #[v0,v1,v2],.bool bb]) ?_ hd (hQ _ hbl);have h1:a.tmps[t]?.getD undef=.pointer (some ⟨w.heap.size,0,none⟩):=by simpa using ht
 have h2:a.tmps[t1]?.getD undef=.bool bb:=by simpa using ht1
 simp[results,hres,go_sem,h1,h2,k0,k1,k2]
theorem PX.rcells {w wx:World} {neg:Bool} {num den:ByteArray} (h:PX w wx neg num den):(wx.cell? ⟨w.heap.size,0,none⟩=some (.bool false)∧wx.cell? ⟨w.heap.size,1,none⟩=some (.string ⟨#[]⟩)∧wx.cell? ⟨w.heap.size,2,none⟩=some (.string ⟨#[]⟩))∧(∀i,wx.frozen? ⟨w.heap.size,i,none⟩=false):=
 ⟨⟨ac h.r 0,ac h.r 1,ac h.r 2⟩,fun i=>aM h.r i⟩
theorem gt {l:List UInt8} {n:Nat} (h:l=aP n):jw l=true∧bU l=l:=by
 subst h;exact ⟨by unfold jw;rw[bf,decide_eq_true (ec n)];rfl,lL _ (qX n)⟩
theorem pR {l:List UInt8} (h1:jw l=true) (h2:bU l=l):l=aP (dv l):=by
 unfold jw at h1;rw[Bool.and_eq_true,decide_eq_true_eq] at h1;rw[←dV l h1.1 h1.2,h2]
section
theorem oG (s:ByteArray) (w:World) (hs:s.size≤90000) (h0:0<s.size):Calls Tryz.prog 113 #[.string s] w (me s.data.toList w):=by
 have HP0:=hid (PX.new w false ⟨#[49]⟩ _ rfl);have hne:s.toList.isEmpty=false:=by rw[isE];exact decide_eq_false (by omega)
 have h0i:(0:Int)<(s.size:Int):=by omega
 have HH:=hid (pP s h0)
 go_enter Tryz.func113,Tryz.ntmps113
 go_upto_if 15 with fail
 go_cut [5] (fun s5 wx=>∃b:ByteArray,s5=.string b∧b.data.toList=bJ s.data.toList∧b.size≤90000∧PX w wx (sgB s.data.toList) ⟨#[]⟩ ⟨#[49]⟩)
 case first=>
  by_cases h45:s[0]=45
  · have h45b:((s[0].toNat:Int)==45)=true:=by rw[h45];rfl
    have HB:Hid ((s.extract 1 s.size).data.toList=bJ s.data.toList∧sgB s.data.toList=true):=hid (vP s h0 h45);have hsz:(s.extract 1 s.size).size≤90000:=by rw[ByteArray.size_extract];omega
    obtain ⟨c0,c1,c2⟩:=HP0.out.cells;have f0:=HP0.out.fz 0;clear h45 hne HH
    go_wp2
    go_region
    all_goals go_wp2
    all_goals go_meet
    all_goals exact ⟨_,rfl,HB.out.1,hsz,by rw[HB.out.2];exact (PX.new w true ⟨#[49]⟩ _ rfl).drew⟩
  · have h45b:((s[0].toNat:Int)==45)=false:=by
      simp only[beq_eq_false_iff_ne,ne_eq];intro e;exact h45 (UInt8.toNat_inj.1 (by have:(45:UInt8).toNat=45:=rfl;omega))
    have HB:Hid (s.data.toList=bJ s.data.toList∧sgB s.data.toList=false):=hid (vQ s h0 h45);clear h45 hne HH
    go_wp2
    go_meet
    exact ⟨s,rfl,HB.out.1,hs,by rw[HB.out.2];exact HP0.out⟩
 case rest=>
  obtain ⟨b,rfl,hb,hbs,hpx⟩:=hcut;have HP:=hid hpx;have HB:=hid hb;have hbl:b.data.toList.length=b.size:=size_data b;have HBL:=hid hbl;clear hpx hb hbl HP0 HH h0 h0i hne
  go_upto_block 0 with fail
  go_cut [5] (fun s5 wx=>∃n d:ByteArray,s5=.string n∧n.data.toList=upto (bJ s.data.toList)∧d.data.toList=iG (bJ s.data.toList)∧n.size≤90000∧d.size≤90000∧PX w wx (sgB s.data.toList) ⟨#[]⟩ d)
  case first=>
   go_wp2_with fail
   go_loopg [5,6] b.size (fun g s5 i wr=>∃k:Nat,k≤b.size∧g=b.size-k∧s5=.string b∧i=.int .i64 k∧NoSl b.data.toList k∧PX w wr (sgB s.data.toList) ⟨#[]⟩ ⟨#[49]⟩)
   case atStart=>exact ⟨0,aE _,by omega,rfl,rfl,NoSl.zero _,HP.out⟩
   case round=>
    clear HP;obtain ⟨k,hk,rfl,rfl,rfl,hno,hpx⟩:=hrel;have HN:=hid hno;have HP:=hid hpx;clear hno hpx
    by_cases hlt:k<b.size
    · by_cases h47:b[k]=47
      · have h47b:((b[k].toNat:Int)==47)=true:=by rw[h47];rfl
        have HS:=hid (HN.out.at_ hlt h47);have hz1:(b.extract 0 k).size≤90000:=by rw[ByteArray.size_extract];omega
        have hz2:(b.extract (k+1) b.size).size≤90000:=by rw[ByteArray.size_extract];omega
        obtain ⟨c0,c1,c2⟩:=HP.out.cells;have f2:=HP.out.fz 2;clear h47
        go_wp2
        go_region
        all_goals go_wp2
        all_goals go_meet
        all_goals exact ⟨_,_,rfl,by rw[←HB.out,HS.out.1],by rw[←HB.out,HS.out.2],hz1,hz2,(HP.out.set 2 (.string (b.extract (k+1) b.size)) rfl).drew⟩
      · have h47b:((b[k].toNat:Int)==47)=false:=by
          simp only[beq_eq_false_iff_ne,ne_eq];intro e;exact h47 (UInt8.toNat_inj.1 (by have:(47:UInt8).toNat=47:=rfl;omega))
        have HS:=hid (HN.out.step hlt h47);clear h47
        go_wp2
        go_roundg (b.size-(k+1))
        case rel=>exact ⟨k+1,by omega,rfl,rfl,by go_num,HS.out,HP.out⟩
        case measure=>omega
    · obtain rfl:k=b.size:=by omega
      have HS:=hid HN.out.all
      go_wp2
      go_meet
      exact ⟨b,⟨#[49]⟩,rfl,by rw[←HB.out,HS.out.1],by rw[←HB.out,HS.out.2],hbs,by decide,HP.out⟩
  case rest=>
   obtain ⟨n,d,rfl,hn,hd,hns,hds,hpx⟩:=hcut;have HN:=hid hn;have HD:=hid hd;have f1:=hpx.fz 1;have hx1:=hpx.cells.2.1;have HPX:=hid (hpx.set 1 (.string n) rfl);clear hn hd hpx HP HBL;have HB0:=HB;clear HB
   go_wp2_with fail
   clear f1 hx1;generalize wc.setCell ⟨w.heap.size+1,1,none⟩ (.string n)=w0 at *;cases hq:bA s.data.toList with
   | some q=>
     have HQ0:=hid hq;clear hq;have hq:=HQ0.out;have HQ:=hid hq;obtain ⟨p1,p2,p3⟩:=rf hq;have HNN:Hid (n.data.toList=aP q.num.natAbs):=hid (by rw[HN.out,p2]);have HDD:Hid (d.data.toList=aP q.den):=hid (by rw[HD.out,p3]);have HSG:Hid (sgB s.data.toList=decide (q.num<0)):=hid p1;have HSF:Hid (eA (sgB s.data.toList) q.num.natAbs q.den=q):=hid (by rw[p1,tO]);clear p1 p2 p3 hq;obtain ⟨e1,e2⟩:=gt HNN.out;obtain ⟨e3,e4⟩:=gt HDD.out;have hdn:=fun W=>bd n W (by omega)
     have hdd:=fun W=>bd d W (by omega)
     have htn:=fun W=>bq n W (by omega)
     have htd:=fun W=>bq d W (by omega)
     rw[e1] at hdn;rw[e3] at hdd;rw[e2,←dR n _ rfl] at htn;rw[e4,←dR d _ rfl] at htd;have hrd:=fun W=>ee (sgB s.data.toList) n d _ _ W HNN.out HDD.out (by omega) (by omega) q.den_pos
     rw[HSF.out] at hrd;have htx:=fun W=>fs q W (by rw[←HNN.out,size_data];omega) (by rw[←HDD.out,size_data];omega)
     rw[j0 HQ.out,←dR s _ rfl] at htx
     have h48:(d.toList==[48])=false:=by
      rw[ByteArray.toList_eq,HDD.out,beq_eq_false_iff_ne,ne_eq,dN];exact q.den_nz
     have K0:w0.cell? ⟨w.heap.size+1,0,none⟩=some (.bool (sgB s.data.toList))∧w0.cell? ⟨w.heap.size+1,1,none⟩=some (.string n)∧w0.cell? ⟨w.heap.size+1,2,none⟩=some (.string d):=HPX.out.cells;clear e1 e2 e3 e4;unfold jy at hrd htx
     go_region_held3 (fun w'=>w'.cell? ⟨w.heap.size+1,0,none⟩=some (.bool (sgB s.data.toList))∧w'.cell? ⟨w.heap.size+1,1,none⟩=some (.string n)∧w'.cell? ⟨w.heap.size+1,2,none⟩=some (.string d))
      (first | exact K0 | exact K1 | exact K2 | go_keep)
      (first
        | (go_at_call 148
           first
            | (with_reducible refine (hdn _).mono ?_;rintro e w' ⟨rfl,rfl⟩)
            | (with_reducible refine (hdd _).mono ?_;rintro e w' ⟨rfl,rfl⟩))
        | (go_at_call 149
           first
            | (with_reducible refine (htn _).mono ?_;rintro e w' ⟨rfl,rfl⟩)
            | (with_reducible refine (htd _).mono ?_;rintro e w' ⟨rfl,rfl⟩))
        | (go_at_call 114
           refine (hrd _).mono ?_;rintro e w1 ⟨rfl,hb1⟩;have HPX1:=hid ((HPX.out.drewN _).far hb1)
           have K1:=HPX1.out.cells)
        | (go_at_call 116
           refine (htx _).mono ?_;rintro e w2 ⟨rfl,hb2⟩;have HPX2:=hid (HPX1.out.far hb2)
           have K2:=HPX2.out.cells))
     have HE:Hid (zC (bA s.data.toList)=.agg #[.bool (sgB s.data.toList),.string n,.string d]∧(bA s.data.toList).isSome=true):=hid (by
      rw[HQ.out];refine ⟨?_,rfl⟩;show jy q=_;unfold jy
      rw[HSG.out,←HNN.out,←HDD.out])
     clear K0 K1 hdn hdd htn htd hrd htx;obtain ⟨x0,x1,x2⟩:=K2;obtain ⟨⟨r0,r1,r2⟩,fr⟩:=HPX2.out.rcells
     go_wp2
     exact fu Tryz.results113 rfl rfl rfl HPX2.out (fun w3 h=>⟨by rw[HE.out.1,HE.out.2],h⟩)
   | none=>
     have HQ0:=hid hq;clear hq
     by_cases c1:jw (upto (bJ s.data.toList))=true
     rotate_left
     · have c1:jw (upto (bJ s.data.toList))=false:=by simpa using c1
       have HC1:=hid c1;clear c1;have hdn:=fun W=>bd n W (by omega)
       have hdd:=fun W=>bd d W (by omega)
       have htn:=fun W=>bq n W (by omega)
       have htd:=fun W=>bq d W (by omega)
       rw[HN.out] at hdn htn;rw[HD.out] at hdd htd;obtain ⟨k0,k1,k2⟩:=HPX.out.cells;rw[HC1.out] at hdn
       go_quiet ((first
        | (go_at_call 148;first
            | (with_reducible exact Calls.quiet_of_same (hdn _))
            | (with_reducible exact Calls.quiet_of_same (hdd _)))
        | (go_at_call 149;first
            | (with_reducible exact Calls.quiet_of_same (htn _))
            | (with_reducible exact Calls.quiet_of_same (htd _)))))
       obtain ⟨⟨r0,r1,r2⟩,fr⟩:=HPX.out.rcells
       go_wp2
       exact fu Tryz.results113 rfl rfl rfl (HPX.out.drewN _) (fun w3 h=>⟨by rw[HQ0.out];rfl,h⟩)
     by_cases c2:jw (iG (bJ s.data.toList))=true
     rotate_left
     · have c2:jw (iG (bJ s.data.toList))=false:=by simpa using c2
       have HC1:=hid c1;have HC2:=hid c2;clear c1 c2;have hdn:=fun W=>bd n W (by omega)
       have hdd:=fun W=>bd d W (by omega)
       have htn:=fun W=>bq n W (by omega)
       have htd:=fun W=>bq d W (by omega)
       rw[HN.out] at hdn htn;rw[HD.out] at hdd htd;obtain ⟨k0,k1,k2⟩:=HPX.out.cells;rw[HC1.out] at hdn;rw[HC2.out] at hdd
       go_quiet ((first
        | (go_at_call 148;first
            | (with_reducible exact Calls.quiet_of_same (hdn _))
            | (with_reducible exact Calls.quiet_of_same (hdd _)))
        | (go_at_call 149;first
            | (with_reducible exact Calls.quiet_of_same (htn _))
            | (with_reducible exact Calls.quiet_of_same (htd _)))))
       obtain ⟨⟨r0,r1,r2⟩,fr⟩:=HPX.out.rcells
       go_wp2
       exact fu Tryz.results113 rfl rfl rfl (HPX.out.drewN _) (fun w3 h=>⟨by rw[HQ0.out];rfl,h⟩)
     by_cases c3:iG (bJ s.data.toList)=[48]
     · have HC1:=hid c1;have HC2:=hid c2;have HC3:=hid c3;clear c1 c2 c3;have hdn:=fun W=>bd n W (by omega)
       have hdd:=fun W=>bd d W (by omega)
       have htn:=fun W=>bq n W (by omega)
       have htd:=fun W=>bq d W (by omega)
       rw[HN.out] at hdn htn;rw[HD.out] at hdd htd;obtain ⟨k0,k1,k2⟩:=HPX.out.cells;rw[HC1.out] at hdn;rw[HC2.out] at hdd;have h48:(d.toList==[48])=true:=by rw[ByteArray.toList_eq,HD.out,HC3.out];rfl
       go_quiet ((first
        | (go_at_call 148;first
            | (with_reducible exact Calls.quiet_of_same (hdn _))
            | (with_reducible exact Calls.quiet_of_same (hdd _)))
        | (go_at_call 149;first
            | (with_reducible exact Calls.quiet_of_same (htn _))
            | (with_reducible exact Calls.quiet_of_same (htd _)))))
       obtain ⟨⟨r0,r1,r2⟩,fr⟩:=HPX.out.rcells
       go_wp2
       exact fu Tryz.results113 rfl rfl rfl (HPX.out.drewN _) (fun w3 h=>⟨by rw[HQ0.out];rfl,h⟩)
     by_cases c4:bU (upto (bJ s.data.toList))=upto (bJ s.data.toList)
     rotate_left
     · have HC1:=hid c1;have HC2:=hid c2;have HC3:=hid c3;have HC4:=hid c4;clear c1 c2 c3 c4;have hdn:=fun W=>bd n W (by omega)
       have hdd:=fun W=>bd d W (by omega)
       have htn:=fun W=>bq n W (by omega)
       have htd:=fun W=>bq d W (by omega)
       rw[HN.out] at hdn htn;rw[HD.out] at hdd htd;obtain ⟨k0,k1,k2⟩:=HPX.out.cells;rw[HC1.out] at hdn;rw[HC2.out] at hdd;have h48:(d.toList==[48])=false:=by rw[ByteArray.toList_eq,HD.out,beq_eq_false_iff_ne];exact HC3.out
       obtain ⟨tn,hte⟩:∃tn:ByteArray,(⟨(bU (upto (bJ s.data.toList))).toArray⟩:ByteArray)=tn:=⟨_,rfl⟩
       rw[hte] at htn
       have htb:(tn.toList==n.toList)=false:=by
        rw[beq_eq_false_iff_ne,ByteArray.toList_eq,ByteArray.toList_eq,←hte,HN.out];exact HC4.out
       clear hte
       go_quiet ((first
        | (go_at_call 148;first
            | (with_reducible exact Calls.quiet_of_same (hdn _))
            | (with_reducible exact Calls.quiet_of_same (hdd _)))
        | (go_at_call 149;first
            | (with_reducible exact Calls.quiet_of_same (htn _))
            | (with_reducible exact Calls.quiet_of_same (htd _)))))
       obtain ⟨⟨r0,r1,r2⟩,fr⟩:=HPX.out.rcells
       go_wp2
       exact fu Tryz.results113 rfl rfl rfl (HPX.out.drewN _) (fun w3 h=>⟨by rw[HQ0.out];rfl,h⟩)
     by_cases c5:bU (iG (bJ s.data.toList))=iG (bJ s.data.toList)
     rotate_left
     · have HC1:=hid c1;have HC2:=hid c2;have HC3:=hid c3;have HC4:=hid c4;have HC5:=hid c5;clear c1 c2 c3 c4 c5;have hdn:=fun W=>bd n W (by omega)
       have hdd:=fun W=>bd d W (by omega)
       have htn:=fun W=>bq n W (by omega)
       have htd:=fun W=>bq d W (by omega)
       rw[HN.out] at hdn htn;rw[HD.out] at hdd htd;obtain ⟨k0,k1,k2⟩:=HPX.out.cells;rw[HC1.out] at hdn;rw[HC2.out] at hdd;have h48:(d.toList==[48])=false:=by rw[ByteArray.toList_eq,HD.out,beq_eq_false_iff_ne];exact HC3.out
       rw[HC4.out,←dR n _ HN.out] at htn;obtain ⟨td,hue⟩:∃td:ByteArray,(⟨(bU (iG (bJ s.data.toList))).toArray⟩:ByteArray)=td:=⟨_,rfl⟩
       rw[hue] at htd
       have hub:(td.toList==d.toList)=false:=by
        rw[beq_eq_false_iff_ne,ByteArray.toList_eq,ByteArray.toList_eq,←hue,HD.out];exact HC5.out
       clear hue
       go_quiet ((first
        | (go_at_call 148;first
            | (with_reducible exact Calls.quiet_of_same (hdn _))
            | (with_reducible exact Calls.quiet_of_same (hdd _)))
        | (go_at_call 149;first
            | (with_reducible exact Calls.quiet_of_same (htn _))
            | (with_reducible exact Calls.quiet_of_same (htd _)))))
       obtain ⟨⟨r0,r1,r2⟩,fr⟩:=HPX.out.rcells
       go_wp2
       exact fu Tryz.results113 rfl rfl rfl (HPX.out.drewN _) (fun w3 h=>⟨by rw[HQ0.out];rfl,h⟩)
     have HC1:=hid c1;have HC2:=hid c2;have HC3:=hid c3;have HC4:=hid c4;have HC5:=hid c5;clear c1 c2 c3 c4 c5;obtain ⟨x,hx⟩:∃x,dv (upto (bJ s.data.toList))=x:=⟨_,rfl⟩
     obtain ⟨z,hz⟩:∃z,dv (iG (bJ s.data.toList))=z:=⟨_,rfl⟩
     have HNN:Hid (n.data.toList=aP x):=hid (by rw[HN.out,←hx];exact pR HC1.out HC4.out);have HDD:Hid (d.data.toList=aP z):=hid (by rw[HD.out,←hz];exact pR HC2.out HC5.out);clear hx hz;have hz0:z≠0:=fun e=>HC3.out (by rw[←HD.out,HDD.out,e,dW])
     obtain ⟨e1,e2⟩:=gt HNN.out;obtain ⟨e3,e4⟩:=gt HDD.out;have hdn:=fun W=>bd n W (by omega)
     have hdd:=fun W=>bd d W (by omega)
     have htn:=fun W=>bq n W (by omega)
     have htd:=fun W=>bq d W (by omega)
     rw[e1] at hdn;rw[e3] at hdd;rw[e2,←dR n _ rfl] at htn;rw[e4,←dR d _ rfl] at htd;have hrd:=fun W=>ee (sgB s.data.toList) n d _ _ W HNN.out HDD.out (by omega) (by omega) (by omega)
     obtain ⟨l1,l2⟩:=lq (sgB s.data.toList) x z (by omega);obtain ⟨q,hqq⟩:∃q,eA (sgB s.data.toList) x z=q:=⟨_,rfl⟩
     rw[hqq] at hrd l1 l2;clear hqq;have htx:=fun W=>fs q W (dd (by rw[←HNN.out,size_data];omega) l1) (dd (by rw[←HDD.out,size_data];omega) l2)
     clear l1 l2;obtain ⟨tx,hte⟩:∃tx:ByteArray,(⟨(bE q).toArray⟩:ByteArray)=tx:=⟨_,rfl⟩
     rw[hte] at htx
     have htb:(tx.toList==s.toList)=false:=by
      rw[beq_eq_false_iff_ne,ByteArray.toList_eq,ByteArray.toList_eq,←hte];exact re HQ0.out q
     clear hte
     have h48:(d.toList==[48])=false:=by
      rw[ByteArray.toList_eq,HDD.out,beq_eq_false_iff_ne,ne_eq,dN];exact hz0
     have K0:w0.cell? ⟨w.heap.size+1,0,none⟩=some (.bool (sgB s.data.toList))∧w0.cell? ⟨w.heap.size+1,1,none⟩=some (.string n)∧w0.cell? ⟨w.heap.size+1,2,none⟩=some (.string d):=HPX.out.cells;clear e1 e2 e3 e4;unfold jy at hrd htx
     go_region_held3 (fun w'=>w'.cell? ⟨w.heap.size+1,0,none⟩=some (.bool (sgB s.data.toList))∧w'.cell? ⟨w.heap.size+1,1,none⟩=some (.string n)∧w'.cell? ⟨w.heap.size+1,2,none⟩=some (.string d))
      (first | exact K0 | exact K1 | exact K2 | go_keep)
      (first
        | (go_at_call 148
           first
            | (with_reducible refine (hdn _).mono ?_;rintro e w' ⟨rfl,rfl⟩)
            | (with_reducible refine (hdd _).mono ?_;rintro e w' ⟨rfl,rfl⟩))
        | (go_at_call 149
           first
            | (with_reducible refine (htn _).mono ?_;rintro e w' ⟨rfl,rfl⟩)
            | (with_reducible refine (htd _).mono ?_;rintro e w' ⟨rfl,rfl⟩))
        | (go_at_call 114
           refine (hrd _).mono ?_;rintro e w1 ⟨rfl,hb1⟩;have HPX1:=hid ((HPX.out.drewN _).far hb1)
           have K1:=HPX1.out.cells)
        | (go_at_call 116
           refine (htx _).mono ?_;rintro e w2 ⟨rfl,hb2⟩;have HPX2:=hid (HPX1.out.far hb2)
           have K2:=HPX2.out.cells))
     clear K0 K1 K2 hdn hdd htn htd hrd htx;obtain ⟨⟨r0,r1,r2⟩,fr⟩:=HPX2.out.rcells
     go_wp2
     exact fu Tryz.results113 rfl rfl rfl HPX2.out (fun w3 h=>⟨by rw[HQ0.out];rfl,h⟩)
end
end Go.Proofs.YtapdbeaoakcjeaaGreatDoor
/- The reference's parse at every text. -/
namespace Go.Proofs.YtapdbeaoakcjeaaGreatDoor
open Go.RowKit Nmx
open Rf
section
theorem mg (s:ByteArray) (w:World) (h0:s.size=0):Calls Tryz.prog 113 #[.string s] w (me s.data.toList w):=by
 obtain rfl:s=⟨#[]⟩:=ByteArray.size_eq_zero_iff.1 h0;have HP0:=hid (PX.new w false ⟨#[49]⟩ _ rfl);have HQ:Hid (bA (⟨#[]⟩:ByteArray).data.toList=none):=hid va;have hdn:=fun W=>bd ⟨#[]⟩ W (by decide)
 have e1:jw (⟨#[]⟩:ByteArray).data.toList=false:=rfl;rw[e1] at hdn;clear h0 e1
 go_enter Tryz.func113,Tryz.ntmps113
 go_wp2
 go_loopg [5,6] 0 (fun g s5 i wr=>s5=.string ⟨#[]⟩∧i=.int .i64 0∧PX w wr false ⟨#[]⟩ ⟨#[49]⟩)
 case atStart=>exact ⟨rfl,rfl,HP0.out⟩
 case round=>
  obtain ⟨rfl,rfl,hrel⟩:=hrel;have HP:=hid hrel;obtain ⟨c0,c1,c2⟩:=hrel.cells;obtain ⟨⟨r0,r1,r2⟩,fr⟩:=hrel.rcells;have f1:=hrel.fz 1;clear hrel HP0
  go_wp2_with fail
  have HP1:=hid (HP.out.set 1 (.string ⟨#[]⟩) rfl);clear c0 c1 c2 r0 r1 r2 fr f1 HP;generalize wr.setCell ⟨w.heap.size+1,1,none⟩ (.string ⟨#[]⟩)=w0 at *;obtain ⟨k0,k1,k2⟩:=HP1.out.cells;obtain ⟨⟨r0,r1,r2⟩,fr⟩:=HP1.out.rcells
  go_quiet ((go_at_call 148;exact Calls.quiet_of_same (hdn _)))
  go_wp2
  exact fu Tryz.results113 rfl rfl rfl (HP1.out.drewN _) (fun w3 h=>⟨by rw[HQ.out];rfl,h⟩)
theorem jz (s:ByteArray) (w:World) (hs:s.size≤90000):Calls Tryz.prog 113 #[.string s] w (me s.data.toList w):=by
 rcases Nat.eq_zero_or_pos s.size with h0 | h0
 · exact mg s w h0
 · exact oG s w hs h0
end
open Rf
def PS (q:Rat) (neg:Bool) (nb db:ByteArray):Prop:=neg=decide (q.num<0)∧nb.data.toList=aP q.num.natAbs∧db.data.toList=aP q.den
theorem PS.val {q:Rat} {neg:Bool} {nb db:ByteArray} (h:PS q neg nb db):jy q=.agg #[.bool neg,.string nb,.string db]:=by
 obtain ⟨h1,h2,h3⟩:=h;unfold jy;rw[h1,dR nb _ h2,dR db _ h3]
theorem PS.of (q:Rat):PS q (decide (q.num<0)) ⟨(aP q.num.natAbs).toArray⟩ ⟨(aP q.den).toArray⟩:=⟨rfl,rfl,rfl⟩
theorem PS.zero {q:Rat} {neg:Bool} {nb db:ByteArray} (h:PS q neg nb db):(nb.toList==[48])=decide (q.num=0):=by
 rw[ByteArray.toList_eq,h.2.1,Bool.eq_iff_iff,beq_iff_eq,dN,decide_eq_true_eq];omega
theorem PS.one {q:Rat} {neg:Bool} {nb db:ByteArray} (h:PS q neg nb db):(db.toList==[49])=decide (q.den=1):=by
 rw[ByteArray.toList_eq,h.2.2,Bool.eq_iff_iff,beq_iff_eq,gS,decide_eq_true_eq]
theorem cn (s:ByteArray) {q:Rat} (hs:s.size≤90000) (hq:bA s.data.toList=some q):∃neg nb db,PS q neg nb db∧nb.size≤s.size∧db.size≤s.size∧∀W,Calls Tryz.prog 113 #[.string s] W fun e w'=>e=.returned (.tuple #[.agg #[.bool neg,.string nb,.string db],.bool true])∧Below W.heap.size W w':=by
 have hl:=congrArg List.length (j0 hq);rw[size_data] at hl;have h1:=sD q.num;have hp:=dn q.num.natAbs;refine ⟨_,_,_,PS.of q,?_,?_,fun W=>?_⟩
 · rw[sz_txt,←hl];unfold bE;rw[aA];omega
 · rw[sz_txt,←hl];unfold bE;rw[aA]
   by_cases h:q.den=1
   · rw[h,eQ]
     simp;omega
   · rw[if_neg h,au];omega
 · refine (jz s W hs).mono fun e w' h=>?_
   unfold me at h;rw[hq] at h;exact h
theorem dr (s:ByteArray) (hs:s.size≤90000) (hq:bA s.data.toList=none) (W:World):Calls Tryz.prog 113 #[.string s] W fun e w'=>e=.returned (.tuple #[.agg #[.bool false,.string ⟨#[]⟩,.string ⟨#[]⟩],.bool false])∧Below W.heap.size W w':=by
 refine (jz s W hs).mono fun e w' h=>?_
 unfold me at h;rw[hq] at h;exact h
def isI (l:List UInt8):Bool:=match bA l with | some q=>decide (q.den=1) | none=>false
def sgO (l:List UInt8):Int:=cR ((bA l).getD 0).num
section
theorem oH (s:ByteArray) (w:World) (hs:s.size≤90000):Calls Tryz.prog 87 #[.string s] w fun e w'=>e=.returned (.bool (bA s.data.toList).isSome)∧Below w.heap.size w w':=by
 cases hq:bA s.data.toList with
 | none=>
   have hp:=dr s hs hq w;clear hq
   go_enter Tryz.func87,Tryz.ntmps87
   go_wp2_with fail
   refine hp.mono ?_;rintro e w1 ⟨rfl,hb1⟩;have HB:=hid hb1;clear hb1 hp
   go_wp2
   go_ret
   exact ⟨rfl,HB.out.alloc HB.out.size _⟩
 | some q=>
   obtain ⟨neg,nb,db,-,-,-,hp⟩:=cn s hs hq;have hp:=hp w;clear hq
   go_enter Tryz.func87,Tryz.ntmps87
   go_wp2_with fail
   refine hp.mono ?_;rintro e w1 ⟨rfl,hb1⟩;have HB:=hid hb1;clear hb1 hp
   go_wp2
   go_ret
   exact ⟨rfl,HB.out.alloc HB.out.size _⟩
theorem oI (s:ByteArray) (w:World) (hs:s.size≤90000):Calls Tryz.prog 86 #[.string s] w fun e w'=>e=.returned (.bool (isI s.data.toList))∧Below w.heap.size w w':=by
 cases hq:bA s.data.toList with
 | none=>
   have hp:=dr s hs hq w;have HI:Hid (isI s.data.toList=false):=hid (by unfold isI;rw[hq]);clear hq
   go_enter Tryz.func86,Tryz.ntmps86
   go_wp2_with fail
   refine hp.mono ?_;rintro e w1 ⟨rfl,hb1⟩;have HB:=hid hb1;clear hb1 hp
   go_wp2
   go_ret
   exact ⟨ret_bool HI.out.symm,HB.out.alloc HB.out.size _⟩
 | some q=>
   obtain ⟨neg,nb,db,hps,-,-,hp⟩:=cn s hs hq;have hp:=hp w;have hd:=hps.one;have HI:Hid (isI s.data.toList=decide (q.den=1)):=hid (by unfold isI;rw[hq]);clear hq hps;generalize decide (q.den=1)=bb at *
   go_enter Tryz.func86,Tryz.ntmps86
   go_wp2_with fail
   refine hp.mono ?_;rintro e w1 ⟨rfl,hb1⟩;have HB:=hid hb1;clear hb1 hp
   go_wp2
   go_ret
   exact ⟨ret_bool HI.out.symm,HB.out.alloc HB.out.size _⟩
theorem pS (s:ByteArray) (w:World) (hs:s.size≤90000):Calls Tryz.prog 90 #[.string s] w fun e w'=>e=.returned (.int .i64 (sgO s.data.toList))∧Below w.heap.size w w':=by
 cases hq:bA s.data.toList with
 | none=>
   have hp:=dr s hs hq w;have HI:Hid (sgO s.data.toList=0):=hid (by unfold sgO;rw[hq];rfl);clear hq
   go_enter Tryz.func90,Tryz.ntmps90
   go_wp2_with fail
   refine hp.mono ?_;rintro e w1 ⟨rfl,hb1⟩;have HB:=hid hb1;clear hb1 hp
   go_wp2
   go_ret
   exact ⟨ret_int HI.out.symm,HB.out.alloc HB.out.size _⟩
 | some q=>
   obtain ⟨neg,nb,db,hps,-,-,hp⟩:=cn s hs hq;have hp:=hp w;have hz:=hps.zero;have HG:Hid (neg=decide (q.num<0)):=hid hps.1;have HI:Hid (sgO s.data.toList=cR q.num):=hid (by unfold sgO;rw[hq];rfl);clear hq hps
   by_cases h0:q.num=0
   · rw[decide_eq_true h0] at hz;have HS:Hid (cR q.num=0):=hid (by rw[h0];rfl);clear h0
     go_enter Tryz.func90,Tryz.ntmps90
     go_wp2_with fail
     refine hp.mono ?_;rintro e w1 ⟨rfl,hb1⟩;have HB:=hid hb1;clear hb1 hp
     go_wp2
     go_ret
     exact ⟨ret_int (by rw[HI.out,HS.out]),HB.out.alloc HB.out.size _⟩
   · rw[decide_eq_false h0] at hz;cases neg
     · have HS:Hid (cR q.num=1):=hid (by have:=HG.out;have h1:¬q.num<0:=(by simpa using this.symm);unfold cR;rw[if_neg h1,if_pos (by omega)]);clear h0
       go_enter Tryz.func90,Tryz.ntmps90
       go_wp2_with fail
       refine hp.mono ?_;rintro e w1 ⟨rfl,hb1⟩;have HB:=hid hb1;clear hb1 hp
       go_wp2
       go_ret
       exact ⟨ret_int (by rw[HI.out,HS.out]),HB.out.alloc HB.out.size _⟩
     · have HS:Hid (cR q.num= -1):=hid (by have:=HG.out;have h1:q.num<0:=(by simpa using this.symm);unfold cR;rw[if_pos h1]);clear h0
       go_enter Tryz.func90,Tryz.ntmps90
       go_wp2_with fail
       refine hp.mono ?_;rintro e w1 ⟨rfl,hb1⟩;have HB:=hid hb1;clear hb1 hp
       go_wp2
       go_ret
       exact ⟨ret_int (by rw[HI.out,HS.out]),HB.out.alloc HB.out.size _⟩
end
open Rf
end Go.Proofs.YtapdbeaoakcjeaaGreatDoor

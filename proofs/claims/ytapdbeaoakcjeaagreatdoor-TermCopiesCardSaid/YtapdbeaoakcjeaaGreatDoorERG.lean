/- The reference's Mul, Div. -/
import Derived.Test.YtapdbeaoakcjeaaGreatDoorERE
set_option maxRecDepth 100000
set_option maxHeartbeats 40000000
open Go.Lib (hid)
namespace Go.Proofs.YtapdbeaoakcjeaaGreatDoor
open Go.RowKit Nmx
open Rf
structure TwoP (w wx:World) (G H:Nat) (n1:Bool) (s1 d1:ByteArray) (n2:Bool) (s2 d2:ByteArray):Prop where
 ha:wx.heap[G]? =some (.cells #[.bool n1,.string s1,.string d1] 149 (0,0))
 hb:wx.heap[H]? =some (.cells #[.bool n2,.string s2,.string d2] 149 (0,0))
 bel:Below w.heap.size w wx
theorem TwoP.far {w wx w1:World} {G H:Nat} {n1:Bool} {s1 d1:ByteArray} {n2:Bool} {s2 d2:ByteArray} (h:TwoP w wx G H n1 s1 d1 n2 s2 d2) (hb:Below wx.heap.size wx w1):TwoP w w1 G H n1 s1 d1 n2 s2 d2:=
 ⟨(hb.block _ (ay h.ha)).trans h.ha,(hb.block _ (ay h.hb)).trans h.hb,h.bel.trans (hb.mono h.bel.size)⟩
theorem TwoP.drewN {w wx:World} {G H:Nat} {n1:Bool} {s1 d1:ByteArray} {n2:Bool} {s2 d2:ByteArray} (h:TwoP w wx G H n1 s1 d1 n2 s2 d2) (n:Nat):TwoP w (wx.drewN n) G H n1 s1 d1 n2 s2 d2:=⟨h.ha,h.hb,aO h.bel n⟩
theorem TwoP.cells {w wx:World} {G H:Nat} {n1:Bool} {s1 d1:ByteArray} {n2:Bool} {s2 d2:ByteArray} (h:TwoP w wx G H n1 s1 d1 n2 s2 d2):wx.cell? ⟨G,0,none⟩=some (.bool n1)∧wx.cell? ⟨G,1,none⟩=some (.string s1)∧wx.cell? ⟨G,2,none⟩=some (.string d1)∧wx.cell? ⟨H,0,none⟩=some (.bool n2)∧wx.cell? ⟨H,1,none⟩=some (.string s2)∧wx.cell? ⟨H,2,none⟩=some (.string d2):=
 ⟨ac h.ha 0,ac h.ha 1,ac h.ha 2,ac h.hb 0,ac h.hb 1,ac h.hb 2⟩
theorem TwoP.new {w w1 w2:World} {n1:Bool} {s1 d1:ByteArray} {n2:Bool} {s2 d2:ByteArray} (h1:Below w.heap.size w w1)
    (h2:Below (w1.alloc (.cells #[.bool n1,.string s1,.string d1] 149)).heap.size (w1.alloc (.cells #[.bool n1,.string s1,.string d1] 149)) w2):
    TwoP w (w2.alloc (.cells #[.bool n2,.string s2,.string d2] 149)) w1.heap.size w2.heap.size n1 s1 d1 n2 s2 d2:=by
 have h3:=h1.alloc h1.size (.cells #[.bool n1,.string s1,.string d1] 149);have h4:=h3.trans (h2.mono h3.size);have h5:=(h2.block _ (ay (heap_alloc_new w1 _))).trans (heap_alloc_new w1 (.cells #[.bool n1,.string s1,.string d1] 149));exact ⟨(Below.heap_alloc w2 _ _ (ay h5)).trans h5,heap_alloc_new w2 _,h4.alloc h4.size _⟩
theorem fv (x y:Nat):(aP (x*y)).length≤(aP x).length+(aP y).length:=by
 refine dD (by have:=dn x;omega) ?_;rw[Nat.pow_add];exact Nat.mul_lt_mul_of_lt_of_lt (rh x) (rh y)
section
theorem pT (s t:ByteArray) (w:World) (hs:s.size≤20000) (ht:t.size≤20000) (hq:bA s.data.toList=none):Calls Tryz.prog 117 #[.string s,.string t] w fun e w'=>e=.returned (.string ⟨(on2 ri s.data.toList t.data.toList).toArray⟩)∧Below w.heap.size w w':=by
 have hp:=dr s (by omega) hq w;have HI:=hid (pz (f:=ri) (b:=t.data.toList) hq);cases hr:bA t.data.toList with
 | none=>
   have hr:=fun W=>dr t (by omega) hr W
   clear hq
   go_enter Tryz.func117,Tryz.ntmps117
   go_wp2_with fail
   refine hp.mono ?_;rintro e w1 ⟨rfl,hb1⟩;have HB:=hid (hb1.alloc hb1.size (.cells #[.bool false,.string ⟨#[]⟩,.string ⟨#[]⟩] 149));clear hb1 hp
   go_wp2_with fail
   refine (hr _).mono ?_;rintro e w2 ⟨rfl,hb2⟩;have HB2:=hid (HB.out.trans (hb2.mono HB.out.size));clear hb2 hr
   go_wp2
   go_ret
   exact ⟨bY (by rw[HI.out]),HB2.out.alloc HB2.out.size _⟩
 | some q=>
   obtain ⟨n2,s2,d2,-,-,-,hr⟩:=cn t (by omega) hr;clear hq
   go_enter Tryz.func117,Tryz.ntmps117
   go_wp2_with fail
   refine hp.mono ?_;rintro e w1 ⟨rfl,hb1⟩;have HB:=hid (hb1.alloc hb1.size (.cells #[.bool false,.string ⟨#[]⟩,.string ⟨#[]⟩] 149));clear hb1 hp
   go_wp2_with fail
   refine (hr _).mono ?_;rintro e w2 ⟨rfl,hb2⟩;have HB2:=hid (HB.out.trans (hb2.mono HB.out.size));clear hb2 hr
   go_wp2
   go_ret
   exact ⟨bY (by rw[HI.out]),HB2.out.alloc HB2.out.size _⟩
theorem oJ (s t:ByteArray) (w:World) (hs:s.size≤20000) (ht:t.size≤20000) {p:Rat} (hp:bA s.data.toList=some p) (hq:bA t.data.toList=none):Calls Tryz.prog 117 #[.string s,.string t] w fun e w'=>e=.returned (.string ⟨(on2 ri s.data.toList t.data.toList).toArray⟩)∧Below w.heap.size w w':=by
 obtain ⟨n1,s1,d1,-,-,-,hp⟩:=cn s (by omega) hp;have hp:=hp w;have hr:=fun W=>dr t (by omega) hq W
 have HI:=hid (m8 (f:=ri) (a:=s.data.toList) hq);clear hq
 go_enter Tryz.func117,Tryz.ntmps117
 go_wp2_with fail
 refine hp.mono ?_;rintro e w1 ⟨rfl,hb1⟩;have HB:=hid (hb1.alloc hb1.size (.cells #[.bool n1,.string s1,.string d1] 149));clear hb1 hp
 go_wp2_with fail
 refine (hr _).mono ?_;rintro e w2 ⟨rfl,hb2⟩;have HB2:=hid (HB.out.trans (hb2.mono HB.out.size));clear hb2 hr
 go_wp2
 go_ret
 exact ⟨bY (by rw[HI.out]),HB2.out.alloc HB2.out.size _⟩
theorem pU (s t:ByteArray) (w:World) (hs:s.size≤20000) (ht:t.size≤20000) {p q:Rat} (hp0:bA s.data.toList=some p) (hq0:bA t.data.toList=some q):Calls Tryz.prog 117 #[.string s,.string t] w fun e w'=>e=.returned (.string ⟨(on2 ri s.data.toList t.data.toList).toArray⟩)∧Below w.heap.size w w':=by
 have HI:Hid (on2 ri s.data.toList t.data.toList=bE (p*q)):=hid (by rw[lP hp0 hq0];rfl);obtain ⟨n1,s1,d1,hP,hs1,hd1,hp⟩:=cn s (by omega) hp0;obtain ⟨n2,s2,d2,hQ,hs2,hd2,hr⟩:=cn t (by omega) hq0;have hp:=hp w;have hm1:=fun W=>ed s1 s2 _ _ W hP.2.1 hQ.2.1 (by omega) (by omega)
 have hm2:=fun W=>ed d1 d2 _ _ W hP.2.2 hQ.2.2 (by omega) (by omega)
 have l1:(aP (p.num.natAbs*q.num.natAbs)).length≤40000:=aC (fv _ _) (by rw[←hP.2.1,←hQ.2.1,size_data,size_data];omega);have l2:(aP (p.den*q.den)).length≤40000:=aC (fv _ _) (by rw[←hP.2.2,←hQ.2.2,size_data,size_data];omega);have HRQ:Hid (eA (n1 !=n2) (p.num.natAbs*q.num.natAbs) (p.den*q.den)=p*q):=hid (by rw[hP.1,hQ.1];exact po p q);have hden:0<p.den*q.den:=Nat.mul_pos p.den_pos q.den_pos;generalize p.num.natAbs*q.num.natAbs=X at *;generalize p.den*q.den=Y at *;have hrd:=fun W=>ee (n1 !=n2) ⟨(aP X).toArray⟩ ⟨(aP Y).toArray⟩ X Y W rfl rfl (by rw[sz_txt];omega) (by rw[sz_txt];omega) hden
 obtain ⟨m1,m2⟩:=lq (n1 !=n2) X Y hden;rw[HRQ.out] at hrd m1 m2;have htx:=fun W=>fs (p*q) W (dd (n:=1000000) (by omega) m1) (dd (n:=1000000) (by omega) m2)
 clear m1 m2 l1 l2 hden hP hQ hp0 hq0 HRQ;unfold jy at hrd htx;generalize p*q=qq at *;generalize (⟨(aP X).toArray⟩:ByteArray)=px at *;generalize (⟨(aP Y).toArray⟩:ByteArray)=py at *
 go_enter Tryz.func117,Tryz.ntmps117
 go_wp2_with fail
 refine hp.mono ?_;rintro e w1 ⟨rfl,hb1⟩;have HB1:=hid hb1;clear hb1 hp
 go_wp2_with fail
 refine (hr _).mono ?_;rintro e w2 ⟨rfl,hb2⟩;have HT:=hid (TwoP.new (n2:=n2) (s2:=s2) (d2:=d2) HB1.out hb2);clear hb2 hr
 go_wp2_with fail
 generalize (w2.alloc (.cells #[.bool n2,.string s2,.string d2] 149))=w3 at *;generalize w1.heap.size=G at *;generalize w2.heap.size=H at *;have K0:=HT.out.cells
 go_region_held3 (fun w'=>w'.cell? ⟨G,0,none⟩=some (.bool n1)∧w'.cell? ⟨G,1,none⟩=some (.string s1)∧w'.cell? ⟨G,2,none⟩=some (.string d1)∧w'.cell? ⟨H,0,none⟩=some (.bool n2)∧w'.cell? ⟨H,1,none⟩=some (.string s2)∧w'.cell? ⟨H,2,none⟩=some (.string d2))
  (first | exact K0 | exact K1 | exact K2 | exact K3 | exact K4 | go_keep)
  (first
    | (go_at_call 115
       first
        | (with_reducible refine (hm1 _).mono ?_
           rintro e w4 ⟨rfl,hb4⟩;have HT1:=hid ((HT.out.drewN _).far hb4)
           have K1:=HT1.out.cells)
        | (with_reducible refine (hm2 _).mono ?_
           rintro e w5 ⟨rfl,hb5⟩;have HT2:=hid (HT1.out.far hb5)
           have K2:=HT2.out.cells))
    | (go_at_call 114
       refine (hrd _).mono ?_;rintro e w6 ⟨rfl,hb6⟩;have HT3:=hid (HT2.out.far hb6)
       have K3:=HT3.out.cells)
    | (go_at_call 116
       refine (htx _).mono ?_;rintro e w7 ⟨rfl,hb7⟩;have HT4:=hid (HT3.out.far hb7)
       have K4:=HT4.out.cells))
 go_wp2
 go_ret
 exact ⟨bY (by rw[HI.out]),HT4.out.bel⟩
theorem rG (s t:ByteArray) (w:World) (hs:s.size≤20000) (ht:t.size≤20000):Calls Tryz.prog 117 #[.string s,.string t] w fun e w'=>e=.returned (.string ⟨(on2 ri s.data.toList t.data.toList).toArray⟩)∧Below w.heap.size w w':=by
 cases hp:bA s.data.toList with
 | none=>exact pT s t w hs ht hp
 | some p=>
   cases hq:bA t.data.toList with
   | none=>exact oJ s t w hs ht hp hq
   | some q=>
     exact pU s t w hs ht hp hq
theorem pV (s t:ByteArray) (w:World) (hs:s.size≤20000) (ht:t.size≤20000) (hq:bA s.data.toList=none):Calls Tryz.prog 67 #[.string s,.string t] w fun e w'=>e=.returned (.string ⟨(on2 kR s.data.toList t.data.toList).toArray⟩)∧Below w.heap.size w w':=by
 have hp:=dr s (by omega) hq w;have HI:=hid (pz (f:=kR) (b:=t.data.toList) hq);cases hr:bA t.data.toList with
 | none=>
   have hr:=fun W=>dr t (by omega) hr W
   clear hq
   go_enter Tryz.func67,Tryz.ntmps67
   go_wp2_with fail
   refine hp.mono ?_;rintro e w1 ⟨rfl,hb1⟩;have HB:=hid (hb1.alloc hb1.size (.cells #[.bool false,.string ⟨#[]⟩,.string ⟨#[]⟩] 149));clear hb1 hp
   go_wp2_with fail
   refine (hr _).mono ?_;rintro e w2 ⟨rfl,hb2⟩;have HB2:=hid (HB.out.trans (hb2.mono HB.out.size));clear hb2 hr
   go_wp2
   go_ret
   exact ⟨bY (by rw[HI.out]),HB2.out.alloc HB2.out.size _⟩
 | some q=>
   obtain ⟨n2,s2,d2,-,-,-,hr⟩:=cn t (by omega) hr;clear hq
   go_enter Tryz.func67,Tryz.ntmps67
   go_wp2_with fail
   refine hp.mono ?_;rintro e w1 ⟨rfl,hb1⟩;have HB:=hid (hb1.alloc hb1.size (.cells #[.bool false,.string ⟨#[]⟩,.string ⟨#[]⟩] 149));clear hb1 hp
   go_wp2_with fail
   refine (hr _).mono ?_;rintro e w2 ⟨rfl,hb2⟩;have HB2:=hid (HB.out.trans (hb2.mono HB.out.size));clear hb2 hr
   go_wp2
   go_ret
   exact ⟨bY (by rw[HI.out]),HB2.out.alloc HB2.out.size _⟩
theorem oK (s t:ByteArray) (w:World) (hs:s.size≤20000) (ht:t.size≤20000) {p:Rat} (hp:bA s.data.toList=some p) (hq:bA t.data.toList=none):Calls Tryz.prog 67 #[.string s,.string t] w fun e w'=>e=.returned (.string ⟨(on2 kR s.data.toList t.data.toList).toArray⟩)∧Below w.heap.size w w':=by
 obtain ⟨n1,s1,d1,-,-,-,hp⟩:=cn s (by omega) hp;have hp:=hp w;have hr:=fun W=>dr t (by omega) hq W
 have HI:=hid (m8 (f:=kR) (a:=s.data.toList) hq);clear hq
 go_enter Tryz.func67,Tryz.ntmps67
 go_wp2_with fail
 refine hp.mono ?_;rintro e w1 ⟨rfl,hb1⟩;have HB:=hid (hb1.alloc hb1.size (.cells #[.bool n1,.string s1,.string d1] 149));clear hb1 hp
 go_wp2_with fail
 refine (hr _).mono ?_;rintro e w2 ⟨rfl,hb2⟩;have HB2:=hid (HB.out.trans (hb2.mono HB.out.size));clear hb2 hr
 go_wp2
 go_ret
 exact ⟨bY (by rw[HI.out]),HB2.out.alloc HB2.out.size _⟩
theorem pW (s t:ByteArray) (w:World) (hs:s.size≤20000) (ht:t.size≤20000) {p q:Rat} (hp0:bA s.data.toList=some p) (hq0:bA t.data.toList=some q) (h0:q.num=0):Calls Tryz.prog 67 #[.string s,.string t] w fun e w'=>e=.returned (.string ⟨(on2 kR s.data.toList t.data.toList).toArray⟩)∧Below w.heap.size w w':=by
 have HI:Hid (on2 kR s.data.toList t.data.toList=[]):=hid (by rw[lP hp0 hq0];unfold kR;rw[if_pos h0];rfl);obtain ⟨n1,s1,d1,hP,hs1,hd1,hp⟩:=cn s (by omega) hp0;obtain ⟨n2,s2,d2,hQ,hs2,hd2,hr⟩:=cn t (by omega) hq0;have hp:=hp w;have hz:=hQ.zero;rw[decide_eq_true h0] at hz;clear hP hQ hp0 hq0 h0
 go_enter Tryz.func67,Tryz.ntmps67
 go_wp2_with fail
 refine hp.mono ?_;rintro e w1 ⟨rfl,hb1⟩;have HB1:=hid hb1;clear hb1 hp
 go_wp2_with fail
 refine (hr _).mono ?_;rintro e w2 ⟨rfl,hb2⟩;have HT:=hid (TwoP.new (n2:=n2) (s2:=s2) (d2:=d2) HB1.out hb2);clear hb2 hr
 go_wp2
 go_ret
 exact ⟨bY (by rw[HI.out]),HT.out.bel⟩
theorem pX (s t:ByteArray) (w:World) (hs:s.size≤20000) (ht:t.size≤20000) {p q:Rat} (hp0:bA s.data.toList=some p) (hq0:bA t.data.toList=some q) (h0:q.num≠0):Calls Tryz.prog 67 #[.string s,.string t] w fun e w'=>e=.returned (.string ⟨(on2 kR s.data.toList t.data.toList).toArray⟩)∧Below w.heap.size w w':=by
 have HI:Hid (on2 kR s.data.toList t.data.toList=bE (p / q)):=hid (by rw[lP hp0 hq0];unfold kR;rw[if_neg h0];rfl);obtain ⟨n1,s1,d1,hP,hs1,hd1,hp⟩:=cn s (by omega) hp0;obtain ⟨n2,s2,d2,hQ,hs2,hd2,hr⟩:=cn t (by omega) hq0;have hp:=hp w;have hz:=hQ.zero;rw[decide_eq_false h0] at hz;have hm1:=fun W=>ed s1 d2 _ _ W hP.2.1 hQ.2.2 (by omega) (by omega)
 have hm2:=fun W=>ed d1 s2 _ _ W hP.2.2 hQ.2.1 (by omega) (by omega)
 have l1:(aP (p.num.natAbs*q.den)).length≤40000:=aC (fv _ _) (by rw[←hP.2.1,←hQ.2.2,size_data,size_data];omega);have l2:(aP (p.den*q.num.natAbs)).length≤40000:=aC (fv _ _) (by rw[←hP.2.2,←hQ.2.1,size_data,size_data];omega);have HRQ:Hid (eA (n1 !=n2) (p.num.natAbs*q.den) (p.den*q.num.natAbs)=p / q):=hid (by rw[hP.1,hQ.1];exact pu p q h0);have hden:0<p.den*q.num.natAbs:=Nat.mul_pos p.den_pos (by omega);generalize p.num.natAbs*q.den=X at *;generalize p.den*q.num.natAbs=Y at *;have hrd:=fun W=>ee (n1 !=n2) ⟨(aP X).toArray⟩ ⟨(aP Y).toArray⟩ X Y W rfl rfl (by rw[sz_txt];omega) (by rw[sz_txt];omega) hden
 obtain ⟨m1,m2⟩:=lq (n1 !=n2) X Y hden;rw[HRQ.out] at hrd m1 m2;have htx:=fun W=>fs (p / q) W (dd (n:=1000000) (by omega) m1) (dd (n:=1000000) (by omega) m2)
 clear m1 m2 l1 l2 hden hP hQ hp0 hq0 HRQ h0;unfold jy at hrd htx;generalize p / q=qq at *;generalize (⟨(aP X).toArray⟩:ByteArray)=px at *;generalize (⟨(aP Y).toArray⟩:ByteArray)=py at *
 go_enter Tryz.func67,Tryz.ntmps67
 go_wp2_with fail
 refine hp.mono ?_;rintro e w1 ⟨rfl,hb1⟩;have HB1:=hid hb1;clear hb1 hp
 go_wp2_with fail
 refine (hr _).mono ?_;rintro e w2 ⟨rfl,hb2⟩;have HT:=hid (TwoP.new (n2:=n2) (s2:=s2) (d2:=d2) HB1.out hb2);clear hb2 hr
 go_wp2_with fail
 generalize (w2.alloc (.cells #[.bool n2,.string s2,.string d2] 149))=w3 at *;generalize w1.heap.size=G at *;generalize w2.heap.size=H at *;have K0:=HT.out.cells
 go_region_held3 (fun w'=>w'.cell? ⟨G,0,none⟩=some (.bool n1)∧w'.cell? ⟨G,1,none⟩=some (.string s1)∧w'.cell? ⟨G,2,none⟩=some (.string d1)∧w'.cell? ⟨H,0,none⟩=some (.bool n2)∧w'.cell? ⟨H,1,none⟩=some (.string s2)∧w'.cell? ⟨H,2,none⟩=some (.string d2))
  (first | exact K0 | exact K1 | exact K2 | exact K3 | exact K4 | go_keep)
  (first
    | (go_at_call 115
       first
        | (with_reducible refine (hm1 _).mono ?_
           rintro e w4 ⟨rfl,hb4⟩;have HT1:=hid ((HT.out.drewN _).far hb4)
           have K1:=HT1.out.cells)
        | (with_reducible refine (hm2 _).mono ?_
           rintro e w5 ⟨rfl,hb5⟩;have HT2:=hid (HT1.out.far hb5)
           have K2:=HT2.out.cells))
    | (go_at_call 114
       refine (hrd _).mono ?_;rintro e w6 ⟨rfl,hb6⟩;have HT3:=hid (HT2.out.far hb6)
       have K3:=HT3.out.cells)
    | (go_at_call 116
       refine (htx _).mono ?_;rintro e w7 ⟨rfl,hb7⟩;have HT4:=hid (HT3.out.far hb7)
       have K4:=HT4.out.cells))
 go_wp2
 go_ret
 exact ⟨bY (by rw[HI.out]),HT4.out.bel⟩
theorem rH (s t:ByteArray) (w:World) (hs:s.size≤20000) (ht:t.size≤20000):Calls Tryz.prog 67 #[.string s,.string t] w fun e w'=>e=.returned (.string ⟨(on2 kR s.data.toList t.data.toList).toArray⟩)∧Below w.heap.size w w':=by
 cases hp:bA s.data.toList with
 | none=>exact pV s t w hs ht hp
 | some p=>
   cases hq:bA t.data.toList with
   | none=>exact oK s t w hs ht hp hq
   | some q=>
     by_cases h0:q.num=0
     · exact pW s t w hs ht hp hq h0
     · exact pX s t w hs ht hp hq h0
end
open Rf
end Go.Proofs.YtapdbeaoakcjeaaGreatDoor
/- The reference's functions at texts of numbers; Floor, Sub. -/
namespace Go.Proofs.YtapdbeaoakcjeaaGreatDoor
open Go.RowKit Nmx
open Rf
def TX (q:Rat):ByteArray:=⟨(bE q).toArray⟩
theorem lC (q:Rat):(TX q).data.toList=bE q:=rfl
theorem xV (q:Rat):(TX q).size=(bE q).length:=sz_txt _
theorem iE (q:Rat):bA (TX q).data.toList=some q:=io q
theorem DS.sz {d:Nat} {q:Rat} (h:DS d q):(TX q).size≤2*d+4:=by rw[xV];exact Nmx.DS.len h
def jA (q:Rat) (W:World) (e:Ending) (w':World):Prop:=e=.returned (.string (TX q))∧Below W.heap.size W w'
theorem PS.fl {neg:Bool} {z:Int} {n:Nat} (h:sgn neg n=z) (h0:neg=true→n≠0):PS (z:Rat) neg ⟨(aP n).toArray⟩ ⟨#[49]⟩:=by
 subst h;refine ⟨?_,?_,?_⟩
 · rw[Rat.num_intCast];cases neg
   · simp[sgn]
   · have:=h0 rfl
     simp[sgn];omega
 · rw[Rat.num_intCast,eP]
 · rw[Rat.den_intCast,eQ]
section
theorem xW {d e:Nat} {p q:Rat} (hp:DS d p) (hq:DS e q) (hd:d≤9000) (he:e≤9000) (W:World):Calls Tryz.prog 117 #[.string (TX p),.string (TX q)] W (jA (p*q) W):=by
 have h:=rG (TX p) (TX q) W (by have:=DS.sz hp;omega) (by have:=DS.sz hq;omega);rw[lC,lC,pw] at h;exact h
theorem xX {d e:Nat} {p q:Rat} (hp:DS d p) (hq:DS e q) (hd:d≤9000) (he:e≤9000) (h0:q.num≠0) (W:World):Calls Tryz.prog 67 #[.string (TX p),.string (TX q)] W (jA (p / q) W):=by
 have h:=rH (TX p) (TX q) W (by have:=DS.sz hp;omega) (by have:=DS.sz hq;omega);rw[lC,lC,pw] at h;unfold kR at h;rw[if_neg h0] at h;exact h
end
end Go.Proofs.YtapdbeaoakcjeaaGreatDoor
namespace Nmx
end Nmx
namespace Go.Proofs.YtapdbeaoakcjeaaGreatDoor
open Go.RowKit Nmx
open Rf
open Rf
end Go.Proofs.YtapdbeaoakcjeaaGreatDoor

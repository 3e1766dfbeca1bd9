import Derived.Test.YtpkfnnkbfphfbaaGreatDoorHEB
set_option maxRecDepth 100000
set_option maxHeartbeats 40000000
open Go.Lib (hid)
namespace Go.Proofs.YtpkfnnkbfphfbaaGreatDoor.Se
open Go.RowKit Nmx Go.Proofs.Tryz
theorem t5 (op n:Int) (w:World) (h0:0≤n):Calls prog 161 #[.int .i64 op,.int .i64 n] w fun e w'=>e=.returned (.bool (raF op n))∧w'=w:=by
 by_cases h5:op=5
 · subst h5
   by_cases h1:1≤n
   · by_cases h2:n≤40
     · have HN:Hid (raF 5 n=true):=hid (by show (decide (1≤n) && decide (n≤40))=true;simp[h1,h2])
       go_enter func161,ntmps161
       go_wp2
       go_ret
       exact ⟨by rw[HN.out];rfl,rfl⟩
     · have HN:Hid (raF 5 n=false):=hid (by show (decide (1≤n) && decide (n≤40))=false;simp[h2])
       go_enter func161,ntmps161
       go_wp2
       go_ret
       exact ⟨by rw[HN.out];rfl,rfl⟩
   · have HN:Hid (raF 5 n=false):=hid (by show (decide (1≤n) && decide (n≤40))=false;simp[h1])
     go_enter func161,ntmps161
     go_wp2
     go_ret
     exact ⟨by rw[HN.out];rfl,rfl⟩
 rcases iL op with (rfl | rfl | rfl | rfl | rfl | rfl | rfl | rfl | rfl | rfl | rfl | rfl | rfl | rfl | rfl | rfl | rfl | rfl | rfl | rfl) | h
 iterate 4
  · go_enter func161,ntmps161
    go_wp2
    go_ret
    exact ⟨rfl,rfl⟩
 · exact absurd rfl h5
 · go_enter func161,ntmps161
   go_wp2
   go_ret
   exact ⟨rfl,rfl⟩
 · have HN:Hid (raF 7 n=true):=hid (by show decide (0≤n)=true;simp[h0])
   go_enter func161,ntmps161
   go_wp2
   go_ret
   exact ⟨by rw[HN.out];rfl,rfl⟩
 · have HN:Hid (raF 8 n=true):=hid (by show decide (0≤n)=true;simp[h0])
   go_enter func161,ntmps161
   go_wp2
   go_ret
   exact ⟨by rw[HN.out];rfl,rfl⟩
 iterate 12
  · go_enter func161,ntmps161
    go_wp2
    go_ret
    exact ⟨rfl,rfl⟩
 · have HN:Hid (raF op n=(n==2)):=hid (by
     unfold raF
     rw[aB (by omega),aB (by omega),aB (by omega),aB (by omega),aB (by omega),aB (by omega)])
   clear h5
   go_enter func161,ntmps161
   go_wp2
   go_ret
   exact ⟨by rw[HN.out];rfl,rfl⟩
theorem yv (op n:Int) (w:World) (h0:0≤n) {b:Bool} (h:raF op n=b):Calls prog 161 #[.int .i64 op,.int .i64 n] w fun e w'=>e=.returned (.bool b)∧w'=w:=by
 rw[←h];exact t5 op n w h0
theorem fJ (ao:Option Addr) (g cap:Nat) (l:List Int) (s o:Int) (w:World) (hr:RowI w ao g l):
    Calls prog 197 #[.slice ao l.length cap,.int .i64 s,.int .i64 o] w fun e w'=>e=.returned (.int .i64 (da l s o))∧w'=w:=by
 have HR:=hid hr;clear hr
 go_enter func197,ntmps197
 go_wp2
 go_loop [7] (fun i=>∃k:Nat,k≤l.length∧i=.int .i64 k∧dG (l.take k) s=true) (fun i=>l.length-(intOf i).toNat)
 case atStart=>exact ⟨0,aM _,rfl,rfl⟩
 case round=>
  obtain ⟨k,hk,rfl,ha⟩:=hrel;have HA:=hid ha;have hf:=HR.out.few;clear ha
  by_cases hlt:k<l.length
  · have hao:=HR.out.at0 (by omega);subst hao;have hc:=HR.out.cell k hlt
    by_cases hx:l[k]=s
    · have hxe:(l[k]==s)=true:=by simp[hx]
      have HN:Hid (dG (l.take (k+1)) s=true):=hid (by unfold dG;rw[List.take_succ_eq_append_getElem hlt,List.all_append];have:=HA.out;unfold dG at this;rw[this];simp[hx]);clear hx;generalize l[k]=y at *
      go_wp2
      go_round
      case rel=>exact ⟨k+1,by omega,by go_num,HN.out⟩
      case measure=>simp[intOf];omega
    · have hxe:(l[k]==s)=false:=by simp[hx]
      have HN:Hid (da l s o=0):=hid (by
       unfold da;rw[aB]
       rw[List.all_eq_true];intro h;exact hx (by simpa using h l[k] (List.getElem_mem hlt)))
      clear hx;generalize l[k]=y at *
      go_wp2
      go_ret
      exact ⟨by rw[HN.out];rfl,rfl⟩
  · have HN:Hid (da l s o=o):=hid (ky (by have:=HA.out;rwa [aT (by omega)] at this))
    go_wp2
    go_ret
    exact ⟨by rw[HN.out];rfl,rfl⟩
theorem jj (s:Int) (w:World) {b:Bool} (h:nuF s=b):Calls prog 198 #[.int .i64 s] w fun e w'=>e=.returned (.bool b)∧w'=w:=by
 rw[←h];exact rT s w
theorem Ao {K:Int} (hK:K=1∨K=2) (sort kids first:Int) (name num:ByteArray) (ao:Option Addr) (g cap:Nat) (l:List Int) (w:World) (hr:RowI w ao g l):
    Calls prog 162 #[.agg #[.int .i64 K,.int .i64 sort,.string name,.string num,.int .i64 kids],.int .i64 first,.slice ao l.length cap] w fun e w'=>e=.returned (.int .i64 (rrF K sort first l))∧Below w.heap.size w w':=by
 have hb:Below w.heap.size w (w.alloc (.cells #[.int .i64 K,.int .i64 sort,.string name,.string num,.int .i64 kids] 57)):=(am _ _).alloc (aj _) _;have HB:=hid hb;have hr2:=hr.far hb;clear hr hb;have HN:Hid (rrF K sort first l=1):=hid (by rcases hK with rfl | rfl <;> rfl);clear hr2;rcases hK with rfl | rfl
 all_goals
  go_enter func162,ntmps162
  go_wp2
  go_ret
  exact ⟨by rw[HN.out];rfl,HB.out⟩
theorem yw {K:Int} (hK:K=3∨K=4∨K=5) (sort kids first:Int) (name num:ByteArray) (ao:Option Addr) (g cap:Nat) (l:List Int) (w:World) (hr:RowI w ao g l):
    Calls prog 162 #[.agg #[.int .i64 K,.int .i64 sort,.string name,.string num,.int .i64 kids],.int .i64 first,.slice ao l.length cap] w fun e w'=>e=.returned (.int .i64 (rrF K sort first l))∧Below w.heap.size w w':=by
 have hb:Below w.heap.size w (w.alloc (.cells #[.int .i64 K,.int .i64 sort,.string name,.string num,.int .i64 kids] 57)):=(am _ _).alloc (aj _) _;have HB:=hid hb;have hr2:=hr.far hb;clear hr hb;have HN:Hid (rrF K sort first l=sort):=hid (by rcases hK with rfl | rfl | rfl <;> rfl);clear hr2;rcases hK with rfl | rfl | rfl
 all_goals
  go_enter func162,ntmps162
  go_wp2
  go_ret
  exact ⟨by rw[HN.out];rfl,HB.out⟩
theorem u7 {K:Int} (hK:K=6∨K=7∨K=8∨K=9) (sort kids first:Int) (name num:ByteArray) (ao:Option Addr) (g cap:Nat) (l:List Int) (w:World) (hr:RowI w ao g l):
    Calls prog 162 #[.agg #[.int .i64 K,.int .i64 sort,.string name,.string num,.int .i64 kids],.int .i64 first,.slice ao l.length cap] w fun e w'=>e=.returned (.int .i64 (rrF K sort first l))∧Below w.heap.size w w':=by
 have hb:Below w.heap.size w (w.alloc (.cells #[.int .i64 K,.int .i64 sort,.string name,.string num,.int .i64 kids] 57)):=(am _ _).alloc (aj _) _;have HB:=hid hb;have hr2:=hr.far hb;clear hr hb;have HN:Hid (rrF K sort first l=da l 1 1):=hid (by rcases hK with rfl | rfl | rfl | rfl <;> rfl);rcases hK with rfl | rfl | rfl | rfl
 all_goals
  go_enter func162,ntmps162
  go_wp2_with fail
  refine (fJ _ g _ l _ _ _ hr2).mono ?_;rintro e w1 ⟨rfl,rfl⟩;clear hr2
  go_wp2
  go_ret
  exact ⟨by rw[HN.out];rfl,HB.out⟩
theorem BA (sort kids first:Int) (name num:ByteArray) (ao:Option Addr) (g cap:Nat) (l:List Int) (w:World) (hr:RowI w ao g l) (hlen:3≤l.length):
    Calls prog 162 #[.agg #[.int .i64 10,.int .i64 sort,.string name,.string num,.int .i64 kids],.int .i64 first,.slice ao l.length cap] w fun e w'=>e=.returned (.int .i64 (rrF 10 sort first l))∧Below w.heap.size w w':=by
 have hb:Below w.heap.size w (w.alloc (.cells #[.int .i64 10,.int .i64 sort,.string name,.string num,.int .i64 kids] 57)):=(am _ _).alloc (aj _) _;have HB:=hid hb;have hr2:=hr.far hb;clear hr hb;have hao:=hr2.at0 (by omega);subst hao;have hc0:=hr2.get (t:=0) (by omega);have hc1:=hr2.get (t:=1) (by omega);have hc2:=hr2.get (t:=2) (by omega);have HF:=hid (show rrF 10 sort first l=(if l.getD 0 0==1 && l.getD 1 0==l.getD 2 0 then l.getD 1 0 else 0) from rfl);have hlp:0<l.length:=by omega
 have hlp1:1<l.length:=by omega
 have hlp2:2<l.length:=by omega
 clear hlen;generalize hl0:l.getD 0 0=x0 at *;clear hl0;generalize hl1:l.getD 1 0=x1 at *;clear hl1;generalize hl2:l.getD 2 0=x2 at *;clear hl2
 by_cases h0:x0=1
 · subst h0
   by_cases h1:x1=x2
   · have HN:=hid (HF.out.trans (show _=x1 by simp[h1]));have h1e:(x1==x2)=true:=by simp[h1]
     clear h1
     go_enter func162,ntmps162
     go_wp2
     go_quiet (fail)
     rename_i nq
     go_wp2
     go_ret
     exact ⟨by rw[HN.out];rfl,aZ HB.out _⟩
   · have HN:=hid (HF.out.trans (show _=(0:Int) by simp[h1]));have h1e:(x1==x2)=false:=by simp[h1]
     go_enter func162,ntmps162
     go_wp2
     go_quiet (fail)
     rename_i nq
     go_wp2
     go_ret
     exact ⟨by rw[HN.out];rfl,aZ HB.out _⟩
 · have HN:=hid (HF.out.trans (show _=(0:Int) by simp[h0]));have h0e:(x0==1)=false:=by simp[h0]
   go_enter func162,ntmps162
   go_wp2
   go_quiet (fail)
   rename_i nq
   go_wp2
   go_ret
   exact ⟨by rw[HN.out];rfl,aZ HB.out _⟩
theorem BC (sort kids first:Int) (name num:ByteArray) (ao:Option Addr) (g cap:Nat) (l:List Int) (w:World) (hr:RowI w ao g l) (hlen:2≤l.length):
    Calls prog 162 #[.agg #[.int .i64 11,.int .i64 sort,.string name,.string num,.int .i64 kids],.int .i64 first,.slice ao l.length cap] w fun e w'=>e=.returned (.int .i64 (rrF 11 sort first l))∧Below w.heap.size w w':=by
 have hb:Below w.heap.size w (w.alloc (.cells #[.int .i64 11,.int .i64 sort,.string name,.string num,.int .i64 kids] 57)):=(am _ _).alloc (aj _) _;have HB:=hid hb;have hr2:=hr.far hb;clear hr hb;have hao:=hr2.at0 (by omega);subst hao;have hc0:=hr2.get (t:=0) (by omega);have HF:=hid (show rrF 11 sort first l=da l (l.getD 0 0) 1 from rfl);have hlp:0<l.length:=by omega
 clear hlen;generalize hl0:l.getD 0 0=x0 at *;clear hl0;have HN:=HF
 go_enter func162,ntmps162
 go_wp2_with fail
 refine (fJ _ g _ l _ _ _ hr2).mono ?_;rintro e w1 ⟨rfl,rfl⟩;clear hr2
 go_wp2
 go_ret
 exact ⟨by rw[HN.out];rfl,HB.out⟩
theorem yy {K:Int} (hK:K=12∨K=13) (sort kids first:Int) (name num:ByteArray) (ao:Option Addr) (g cap:Nat) (l:List Int) (w:World) (hr:RowI w ao g l) (hlen:2≤l.length):
    Calls prog 162 #[.agg #[.int .i64 K,.int .i64 sort,.string name,.string num,.int .i64 kids],.int .i64 first,.slice ao l.length cap] w fun e w'=>e=.returned (.int .i64 (rrF K sort first l))∧Below w.heap.size w w':=by
 have hb:Below w.heap.size w (w.alloc (.cells #[.int .i64 K,.int .i64 sort,.string name,.string num,.int .i64 kids] 57)):=(am _ _).alloc (aj _) _;have HB:=hid hb;have hr2:=hr.far hb;clear hr hb;have hao:=hr2.at0 (by omega);subst hao;have hc0:=hr2.get (t:=0) (by omega);have HF:=hid (show rrF K sort first l=(if nuF (l.getD 0 0) then da l (l.getD 0 0) 1 else 0) from by rcases hK with rfl | rfl <;> rfl);have hlp:0<l.length:=by omega
 clear hlen;generalize hl0:l.getD 0 0=x0 at *;clear hl0;rcases hK with rfl | rfl
 all_goals
  cases hu:nuF x0
  · have HN:=hid (HF.out.trans (show _=(0:Int) by rw[hu];rfl))
    go_enter func162,ntmps162
    go_wp2_with fail
    refine (jj _ _ hu).mono ?_;rintro e w1 ⟨rfl,rfl⟩
    go_wp2
    go_ret
    exact ⟨by rw[HN.out];rfl,HB.out⟩
  · have HN:=hid (HF.out.trans (show _=da l x0 1 by rw[hu];rfl))
    go_enter func162,ntmps162
    go_wp2_with fail
    refine (jj _ _ hu).mono ?_;rintro e w1 ⟨rfl,rfl⟩
    go_wp2_with fail
    refine (fJ _ g _ l _ _ _ hr2).mono ?_;rintro e w1 ⟨rfl,rfl⟩;clear hr2
    go_wp2
    go_ret
    exact ⟨by rw[HN.out];rfl,HB.out⟩
theorem BD (sort kids first:Int) (name num:ByteArray) (ao:Option Addr) (g cap:Nat) (l:List Int) (w:World) (hr:RowI w ao g l) (hlen:1≤l.length):
    Calls prog 162 #[.agg #[.int .i64 14,.int .i64 sort,.string name,.string num,.int .i64 kids],.int .i64 first,.slice ao l.length cap] w fun e w'=>e=.returned (.int .i64 (rrF 14 sort first l))∧Below w.heap.size w w':=by
 have hb:Below w.heap.size w (w.alloc (.cells #[.int .i64 14,.int .i64 sort,.string name,.string num,.int .i64 kids] 57)):=(am _ _).alloc (aj _) _;have HB:=hid hb;have hr2:=hr.far hb;clear hr hb;have hao:=hr2.at0 (by omega);subst hao;have hc0:=hr2.get (t:=0) (by omega);have HF:=hid (show rrF 14 sort first l=(if nuF (l.getD 0 0) then da l (l.getD 0 0) (l.getD 0 0) else 0) from rfl);have hlp:0<l.length:=by omega
 clear hlen;generalize hl0:l.getD 0 0=x0 at *;clear hl0;cases hu:nuF x0
 · have HN:=hid (HF.out.trans (show _=(0:Int) by rw[hu];rfl))
   go_enter func162,ntmps162
   go_wp2_with fail
   refine (jj _ _ hu).mono ?_;rintro e w1 ⟨rfl,rfl⟩
   go_wp2
   go_ret
   exact ⟨by rw[HN.out];rfl,HB.out⟩
 · have HN:=hid (HF.out.trans (show _=da l x0 x0 by rw[hu];rfl))
   go_enter func162,ntmps162
   go_wp2_with fail
   refine (jj _ _ hu).mono ?_;rintro e w1 ⟨rfl,rfl⟩
   go_wp2
   go_quiet ((go_at_call 197;exact Calls.quiet_of_same (fJ _ g _ l _ _ _ (hr2.drewN _))))
   rename_i nq
   go_wp2
   go_ret
   exact ⟨by rw[HN.out];rfl,aZ HB.out _⟩
theorem BE (sort kids first:Int) (name num:ByteArray) (ao:Option Addr) (g cap:Nat) (l:List Int) (w:World) (hr:RowI w ao g l) (hlen:2≤l.length):
    Calls prog 162 #[.agg #[.int .i64 15,.int .i64 sort,.string name,.string num,.int .i64 kids],.int .i64 first,.slice ao l.length cap] w fun e w'=>e=.returned (.int .i64 (rrF 15 sort first l))∧Below w.heap.size w w':=by
 have hb:Below w.heap.size w (w.alloc (.cells #[.int .i64 15,.int .i64 sort,.string name,.string num,.int .i64 kids] 57)):=(am _ _).alloc (aj _) _;have HB:=hid hb;have hr2:=hr.far hb;clear hr hb;have hao:=hr2.at0 (by omega);subst hao;have hc0:=hr2.get (t:=0) (by omega);have HF:=hid (show rrF 15 sort first l=(if first=3 then da l (l.getD 0 0) (l.getD 0 0) else 0) from rfl);have hlp:0<l.length:=by omega
 clear hlen;generalize hl0:l.getD 0 0=x0 at *;clear hl0
 by_cases hf:first=3
 · subst hf;have HN:=hid (HF.out.trans (show _=da l x0 x0 from rfl))
   go_enter func162,ntmps162
   go_wp2
   go_quiet ((go_at_call 197;exact Calls.quiet_of_same (fJ _ g _ l _ _ _ (hr2.drewN _))))
   rename_i nq
   go_wp2
   go_ret
   exact ⟨by rw[HN.out];rfl,aZ HB.out _⟩
 · have HN:=hid (HF.out.trans (show _=(0:Int) by rw[aB hf]));have hfe:(first==3)=false:=by simp[hf]
   go_enter func162,ntmps162
   go_wp2
   go_ret
   exact ⟨by rw[HN.out];rfl,HB.out⟩
theorem yA {K:Int} (hK:K=16∨K=17) (sort kids first:Int) (name num:ByteArray) (ao:Option Addr) (g cap:Nat) (l:List Int) (w:World) (hr:RowI w ao g l):
    Calls prog 162 #[.agg #[.int .i64 K,.int .i64 sort,.string name,.string num,.int .i64 kids],.int .i64 first,.slice ao l.length cap] w fun e w'=>e=.returned (.int .i64 (rrF K sort first l))∧Below w.heap.size w w':=by
 have hb:Below w.heap.size w (w.alloc (.cells #[.int .i64 K,.int .i64 sort,.string name,.string num,.int .i64 kids] 57)):=(am _ _).alloc (aj _) _;have HB:=hid hb;have hr2:=hr.far hb;clear hr hb;have HN:Hid (rrF K sort first l=da l 2 2):=hid (by rcases hK with rfl | rfl <;> rfl);rcases hK with rfl | rfl
 all_goals
  go_enter func162,ntmps162
  go_wp2_with fail
  refine (fJ _ g _ l _ _ _ hr2).mono ?_;rintro e w1 ⟨rfl,rfl⟩;clear hr2
  go_wp2
  go_ret
  exact ⟨by rw[HN.out];rfl,HB.out⟩
theorem BF (sort kids first:Int) (name num:ByteArray) (ao:Option Addr) (g cap:Nat) (l:List Int) (w:World) (hr:RowI w ao g l) (hlen:2≤l.length):
    Calls prog 162 #[.agg #[.int .i64 18,.int .i64 sort,.string name,.string num,.int .i64 kids],.int .i64 first,.slice ao l.length cap] w fun e w'=>e=.returned (.int .i64 (rrF 18 sort first l))∧Below w.heap.size w w':=by
 have hb:Below w.heap.size w (w.alloc (.cells #[.int .i64 18,.int .i64 sort,.string name,.string num,.int .i64 kids] 57)):=(am _ _).alloc (aj _) _;have HB:=hid hb;have hr2:=hr.far hb;clear hr hb;have hao:=hr2.at0 (by omega);subst hao;have hc0:=hr2.get (t:=0) (by omega);have hc1:=hr2.get (t:=1) (by omega);have HF:=hid (show rrF 18 sort first l=(if l.getD 0 0==4 && l.getD 1 0==2 then 2 else 0) from rfl);have hlp:0<l.length:=by omega
 have hlp1:1<l.length:=by omega
 clear hlen;generalize hl0:l.getD 0 0=x0 at *;clear hl0;generalize hl1:l.getD 1 0=x1 at *;clear hl1
 by_cases h0:x0=4
 · subst h0
   by_cases h1:x1=2
   · subst h1;have HN:=hid (HF.out.trans (show _=(2:Int) from rfl))
     go_enter func162,ntmps162
     go_wp2
     go_ret
     exact ⟨by rw[HN.out];rfl,HB.out⟩
   · have HN:=hid (HF.out.trans (show _=(0:Int) by simp[h1]));have h1e:(x1==2)=false:=by simp[h1]
     go_enter func162,ntmps162
     go_wp2
     go_ret
     exact ⟨by rw[HN.out];rfl,HB.out⟩
 · have HN:=hid (HF.out.trans (show _=(0:Int) by simp[h0]));have h0e:(x0==4)=false:=by simp[h0]
   go_enter func162,ntmps162
   go_wp2
   go_ret
   exact ⟨by rw[HN.out];rfl,HB.out⟩
theorem BG (sort kids first:Int) (name num:ByteArray) (ao:Option Addr) (g cap:Nat) (l:List Int) (w:World) (hr:RowI w ao g l) (hlen:3≤l.length):
    Calls prog 162 #[.agg #[.int .i64 19,.int .i64 sort,.string name,.string num,.int .i64 kids],.int .i64 first,.slice ao l.length cap] w fun e w'=>e=.returned (.int .i64 (rrF 19 sort first l))∧Below w.heap.size w w':=by
 have hb:Below w.heap.size w (w.alloc (.cells #[.int .i64 19,.int .i64 sort,.string name,.string num,.int .i64 kids] 57)):=(am _ _).alloc (aj _) _;have HB:=hid hb;have hr2:=hr.far hb;clear hr hb;have hao:=hr2.at0 (by omega);subst hao;have hc0:=hr2.get (t:=0) (by omega);have hc1:=hr2.get (t:=1) (by omega);have hc2:=hr2.get (t:=2) (by omega);have HF:=hid (show rrF 19 sort first l=(if l.getD 0 0==4 && (l.getD 1 0==2 && l.getD 2 0==2) then 4 else 0) from rfl);have hlp:0<l.length:=by omega
 have hlp1:1<l.length:=by omega
 have hlp2:2<l.length:=by omega
 clear hlen;generalize hl0:l.getD 0 0=x0 at *;clear hl0;generalize hl1:l.getD 1 0=x1 at *;clear hl1;generalize hl2:l.getD 2 0=x2 at *;clear hl2
 by_cases h0:x0=4
 · subst h0
   by_cases h1:x1=2
   · subst h1
     by_cases h2:x2=2
     · subst h2;have HN:=hid (HF.out.trans (show _=(4:Int) from rfl))
       go_enter func162,ntmps162
       go_wp2
       go_ret
       exact ⟨by rw[HN.out];rfl,HB.out⟩
     · have HN:=hid (HF.out.trans (show _=(0:Int) by simp[h2]));have h2e:(x2==2)=false:=by simp[h2]
       go_enter func162,ntmps162
       go_wp2
       go_ret
       exact ⟨by rw[HN.out];rfl,HB.out⟩
   · have HN:=hid (HF.out.trans (show _=(0:Int) by simp[h1]));have h1e:(x1==2)=false:=by simp[h1]
     go_enter func162,ntmps162
     go_wp2
     go_ret
     exact ⟨by rw[HN.out];rfl,HB.out⟩
 · have HN:=hid (HF.out.trans (show _=(0:Int) by simp[h0]));have h0e:(x0==4)=false:=by simp[h0]
   go_enter func162,ntmps162
   go_wp2
   go_ret
   exact ⟨by rw[HN.out];rfl,HB.out⟩
theorem BH (sort kids first:Int) (name num:ByteArray) (ao:Option Addr) (g cap:Nat) (l:List Int) (w:World) (hr:RowI w ao g l):
    Calls prog 162 #[.agg #[.int .i64 20,.int .i64 sort,.string name,.string num,.int .i64 kids],.int .i64 first,.slice ao l.length cap] w fun e w'=>e=.returned (.int .i64 (rrF 20 sort first l))∧Below w.heap.size w w':=by
 have hb:Below w.heap.size w (w.alloc (.cells #[.int .i64 20,.int .i64 sort,.string name,.string num,.int .i64 kids] 57)):=(am _ _).alloc (aj _) _;have HB:=hid hb;have hr2:=hr.far hb;clear hr hb;have HN:Hid (rrF 20 sort first l=da l 2 4):=hid rfl
 go_enter func162,ntmps162
 go_wp2_with fail
 refine (fJ _ g _ l _ _ _ hr2).mono ?_;rintro e w1 ⟨rfl,rfl⟩;clear hr2
 go_wp2
 go_ret
 exact ⟨by rw[HN.out];rfl,HB.out⟩
theorem t6 (x:Nd) (first:Int) (ao:Option Addr) (g cap:Nat) (l:List Int) (w:World) (hr:RowI w ao g l) (hop:1≤x.op∧x.op≤20) (hlen:raF x.op l.length=true):
    Calls prog 162 #[x.val,.int .i64 first,.slice ao l.length cap] w fun e w'=>e=.returned (.int .i64 (rrF x.op x.sort first l))∧Below w.heap.size w w':=by
 obtain ⟨op,sort,name,num,kids⟩:=x;unfold Nd.val;simp only at hop hlen ⊢;rcases iL op with (rfl | rfl | rfl | rfl | rfl | rfl | rfl | rfl | rfl | rfl | rfl | rfl | rfl | rfl | rfl | rfl | rfl | rfl | rfl | rfl) | h
 · exact Ao (.inl rfl) sort kids first name num ao g cap l w hr
 · exact Ao (.inr rfl) sort kids first name num ao g cap l w hr
 · exact yw (.inl rfl) sort kids first name num ao g cap l w hr
 · exact yw (.inr (.inl rfl)) sort kids first name num ao g cap l w hr
 · exact yw (.inr (.inr rfl)) sort kids first name num ao g cap l w hr
 · exact u7 (.inl rfl) sort kids first name num ao g cap l w hr
 · exact u7 (.inr (.inl rfl)) sort kids first name num ao g cap l w hr
 · exact u7 (.inr (.inr (.inl rfl))) sort kids first name num ao g cap l w hr
 · exact u7 (.inr (.inr (.inr rfl))) sort kids first name num ao g cap l w hr
 · exact BA sort kids first name num ao g cap l w hr (by have h:(l.length:Int)=3:=(by simpa [raF] using hlen);omega)
 · exact BC sort kids first name num ao g cap l w hr (by have h:(l.length:Int)=2:=(by simpa [raF] using hlen);omega)
 · exact yy (.inl rfl) sort kids first name num ao g cap l w hr (by have h:(l.length:Int)=2:=(by simpa [raF] using hlen);omega)
 · exact yy (.inr rfl) sort kids first name num ao g cap l w hr (by have h:(l.length:Int)=2:=(by simpa [raF] using hlen);omega)
 · exact BD sort kids first name num ao g cap l w hr (by have h:=of_decide_eq_true (show decide (1≤(l.length:Int))=true from hlen);omega)
 · exact BE sort kids first name num ao g cap l w hr (by have h:(l.length:Int)=2:=(by simpa [raF] using hlen);omega)
 · exact yA (.inl rfl) sort kids first name num ao g cap l w hr
 · exact yA (.inr rfl) sort kids first name num ao g cap l w hr
 · exact BF sort kids first name num ao g cap l w hr (by have h:(l.length:Int)=2:=(by simpa [raF] using hlen);omega)
 · exact BG sort kids first name num ao g cap l w hr (by have h:(l.length:Int)=3:=(by simpa [raF] using hlen);omega)
 · exact BH sort kids first name num ao g cap l w hr
 · omega
def TP (w:World) (n:Nat) (s:Int) (e:Ending) (w':World):Prop:=e=.returned (.tuple #[.int .i64 n,.int .i64 s])∧Below w.heap.size w w'
structure TR (S g p:Nat) (op sort kids:Int) (name num:ByteArray) (w W:World):Prop where
 c0:W.cell? ⟨g,p*5,none⟩=some (.int .i64 op)
 c1:W.cell? ⟨g,p*5+1,none⟩=some (.int .i64 sort)
 c2:W.cell? ⟨g,p*5+2,none⟩=some (.string name)
 c3:W.cell? ⟨g,p*5+3,none⟩=some (.string num)
 c4:W.cell? ⟨g,p*5+4,none⟩=some (.int .i64 kids)
 lt:g<W.heap.size
 bel:Below S w W
theorem TR.far {S g p:Nat} {op sort kids:Int} {name num:ByteArray} {w W W':World} (h:TR S g p op sort kids name num w W) (hb:Below W.heap.size W W') (hs:S≤W.heap.size):TR S g p op sort kids name num w W':=
 ⟨(hb.cell (p:=⟨g,p*5,none⟩) h.lt).trans h.c0,(hb.cell (p:=⟨g,p*5+1,none⟩) h.lt).trans h.c1,(hb.cell (p:=⟨g,p*5+2,none⟩) h.lt).trans h.c2,(hb.cell (p:=⟨g,p*5+3,none⟩) h.lt).trans h.c3,(hb.cell (p:=⟨g,p*5+4,none⟩) h.lt).trans h.c4,aC h.lt hb.size,h.bel.trans (hb.mono hs)⟩
theorem TR.drew {S g p:Nat} {op sort kids:Int} {name num:ByteArray} {w W:World} (h:TR S g p op sort kids name num w W):TR S g p op sort kids name num w W.drew:=
 ⟨h.c0,h.c1,h.c2,h.c3,h.c4,h.lt,aZ h.bel 1⟩
theorem TR.of {S g p:Nat} {x:Nd} {T:List Nd} {w W:World} (hN:NodesAt W g T) (hx:T[p]? =some x) (hg:g<W.heap.size) (hb:Below S w W):TR S g p x.op x.sort x.kids x.name x.num w W:=
 ⟨hN p x hx 0 (by decide),hN p x hx 1 (by decide),hN p x hx 2 (by decide),hN p x hx 3 (by decide),hN p x hx 4 (by decide),hg,hb⟩
theorem TR.grow {S g p:Nat} {op sort kids:Int} {name num:ByteArray} {w W W':World} {b:Option Nat} (h:TR S g p op sort kids name num w W) (hg:W.grownBy W' b) (hb:∀k,b=some k→S≤k) (hgS:g<S) (hs:S≤W.heap.size):TR S g p op sort kids name num w W':=by
 have hne:∀j,W'.cell? ⟨g,j,none⟩=W.cell? ⟨g,j,none⟩:=fun j=>by
  rw[World.cell?,World.cell?,hg.block g h.lt (fun e=>by have:=hb g e.symm;omega)]
 exact ⟨(hne _).trans h.c0,(hne _).trans h.c1,(hne _).trans h.c2,(hne _).trans h.c3,(hne _).trans h.c4,aC h.lt hg.size,h.bel.grown hg hs (fun k e=>hb k e)⟩
theorem WE.step {q d:Nat} {rest:List Nd} {s:Int} {tl:List Int} {Er:List Nat} {Sr:List Int} (h:WE q d rest (s::tl) Er Sr):∃d' x ks ss rest' Ek Sk Er' Sr',d=d'+1∧rest=x::(ks++rest')∧WE (q+1) d' ks ss Ek Sk∧NodeOk x ks ss s∧WE (q+1+ks.length) (d'+1) rest' tl Er' Sr':=by
 cases h with
 | cons hk hn hr=>exact ⟨_,_,_,_,_,_,_,_,_,rfl,rfl,hk,hn,hr⟩
theorem zS {w:World} {b:Nat} {v:Value} {l:List Int} (h:w.ownsRow b 3 1 v l.length (dz l)) (h0:0<w.heap.size) (hf:l.length≤1000000):∃ao g cap,v=.slice ao l.length cap∧RowI w ao g l:=by
 have h':=h;obtain ⟨_,h1 | ⟨g,cap,cur,hv,_⟩⟩:=h'
 · exact ⟨none,0,0,by rw[h1.1,h1.2],fun h=>absurd h1.2 h,h0,hf,fun t ht=>by omega⟩
 · refine ⟨_,g,cap,hv,fun _=>rfl,(h.lt g (by rw[hv];rfl)).2,hf,fun t ht=>?_⟩;rw[hv] at h;rw[h.cellAt t (by omega)];simp[dz,ht]
theorem u9 {T:List Nd} {p:Nat} {x:Nd} {ks:List Nd} (h:Agr ndZ 0 T p (x::ks)) (hp:p<T.length):T[p]? =some x:=by
 have h1:=h.head;rw[Nat.sub_zero,aA,ay hp] at h1;rw[ay hp];exact congrArg some h1
theorem yB {x:Nd} (h:fpF x=true):nI x=true∧1≤x.op∧x.op≤20∧(arF x.op).1≤x.kids:=by
 unfold fpF at h;simp only[Bool.and_eq_true,decide_eq_true_eq] at h;obtain ⟨h1,h2,h3,h4,h5⟩:=h;refine ⟨?_,h1,h2,h3⟩;unfold nI;simp only[h1,h2,h5,decide_true,Bool.and_true]
theorem wk (x:Nd) (w:World) (hs:x.num.size≤1000) {b:Bool} (h:nI x=b):Calls prog 160 #[x.val] w fun e w'=>e=.returned (.bool b)∧Below w.heap.size w w':=by
 rw[←h];exact nJ x w hs
theorem zU (d:Nat):∀(T:List Nd) (g cap p:Nat) (x:Nd) (ks:List Nd) (ss:List Int) (s:Int) (Ek:List Nat) (Sk:List Int) (dep:Nat) (w:World),WE (p+1) d ks ss Ek Sk→NodeOk x ks ss s→Agr ndZ 0 T p (x::ks)→p+1+ks.length≤T.length→(∀y∈T,y.num.size≤1000)→d+dep≤256→T.length≤1000000→NodesAt w g T→g<w.heap.size→
    Calls prog 115 #[.slice (some ⟨g,0,none⟩) T.length cap,.int .i64 p,.int .i64 dep] w (TP w (p+1+ks.length) s):=by
 induction d using Nat.strongRecOn with
 | _ d ih=>
 intro T g cap p x ks ss s Ek Sk dep w hw hn ha hle hsz hd hT hN hg;obtain ⟨i0,hi,hz0,hz1,hz2⟩:=info_parts infoInt;have lk:=hw.lens;have hp:p<T.length:=by omega
 have hx:=u9 ha hp;have hxs:x.num.size≤1000:=hsz x (List.mem_of_getElem? hx);obtain ⟨hfl,ho1,ho2,hak⟩:=yB hn.fp;obtain ⟨first,hfirst⟩:∃f:Int,f=if ss=[] then 0 else (ks.getD 0 ndZ).op:=⟨_,rfl⟩
 obtain ⟨hrr,hra,hs1,hs4⟩:=An hn.fp hn.kn hn.rs hw.sorts (first:=first) (fun e=>by
  rw[hfirst,aB,hn.mul e];rintro rfl;rw[hn.kn,e] at hak
  exact absurd hak (by decide))
 have hkn:=hn.kn;have hTR:=TR.of hN hx hg (am w.heap.size w);have HT0:=hid hTR;have HN:=hid hN;have HI:=hid ih;have HW:=hid hw;have HA:=hid ha.tail;have HSZ:=hid hsz;have HFI:=hid hfirst;have HSO:=hid hw.sorts;have HLE:=hid hle;obtain ⟨m,hm⟩:∃m,ss.length=m:=⟨_,rfl⟩
 obtain ⟨n,hnn⟩:∃n,T.length=n:=⟨_,rfl⟩
 have hmn:m≤n:=by omega
 rw[hm] at hkn;rw[hnn] at hp hT;have HM:=hid hm;have HNN:=hid hnn;rw[hnn];obtain ⟨op,sort,name,num,kids⟩:=x;simp only at hkn hfl hra hxs hrr ho1 ho2 hTR HT0;subst hkn;have HRR:=hid hrr;have HRA:=hid hra;have hfi:=fun W:World=>wk ⟨op,sort,name,num,(m:Int)⟩ W hxs hfl
 have har:=fun W:World=>yv op (m:Int) W (by omega) hra
 unfold Nd.val at hfi;simp only at hfi;have HOP:=hid (And.intro ho1 ho2);have HD:=hid hd;have hdp:dep≤256:=by omega
 have g1:decide ((n:Int)≤(p:Int))=false:=aD (by omega);have g1n:decide (n≤p)=false:=aD (by omega);have g3n:decide (n<m)=false:=aD (by omega);have g2:decide ((256:Int)<(dep:Int))=false:=aD (by omega);have g3:decide ((n:Int)<(m:Int))=false:=aD (by omega);clear hle hsz hd hN hn hw ha hx hfirst hm hnn lk hak hrr hra hfl ih ho1 ho2 hs1 hs4 hxs;generalize hB:w.heap.size=B at *;have HBe:=hid hB;have hB0:0<B:=by omega
 go_enter func115,ntmps115
 go_wp2
 refine cF [[],[],[1],[0,1,2],[0,1,2,3],[0,1,2,3,4],[0,1,2,3,4,5],[0,1,2,3,4,5,6],[0,1,2,3,4,5,6,7],[0,1,2,3,4,5,6,7,8],[0,1,2,3,4,5,6,7,8],[0,1,2,3,4,5,6,7,8,9,10],[0,1,2,3,4,5,6,7,8,9,10,11],[0,1,2,3,4,5,6,7,8,9,10,11,12],[0,1,2,3,4,5,6,7,8,9,10,11,12,13],[0,1,2,3,4,5,6,7,8,9,10,11,12,13,14],[0,1,2,3,4,5,6,7,8,9,10,11,12,13,14,15],[0,1,2,3,4,5,6,7,8,9,10,11,12,13,14,15,16],[0,1,2,3,4,5,6,7,8,9,10,11,12,13,14,15,16],[0,1,2,3,4,5,6,7,8,9,10,11,12,13,14,15,16,17,18],[0,1,2,3,4,5,6,7,8,9,10,11,12,13,14,15,16,17,18,19],[0,1,2,3,4,5,6,7,8,9,10,11,12,13,14,15,16,17,18,19,20],[0,1,2,3,4,5,6,7,8,9,10,11,12,13,14,15,16],[0,1,2,3,4,5,6,7,8,9,10,11,12,13,14,15,16],[0,1,2,3,4,5,6,7,8,9,10,11,12,13,14,15,16,22,23],[0,1,2,3,4,5,6,7,8,9,10,11,12,13,14,15,16,22,23,24],[0,1,2,3,4,5,6,7,8,9,10,11,12,13,14,15,16,22,23,24,25],[0,1,2,3,4,5,6,7,8,9,10,11,12,13,14,15,16,17,18,19,20,21,22,23,24,25,26],[0,1,2,3,4,5,6,7,8,9,10,11,12,13,14,15,16,17,18,19,20,21,22,23,24,25,26,27],[0,1,2,3,4,5,6,7,8,9,10,11,12,13,14,15,16,17,18,19,20,21,22,23,24,25,26,27,28],[0,1,2,3,4,5,6,7,8,9,10,11,12,13,14,15,16,17,18,19,20,21,22,23,24,25,26,27,28,29],[0,1,2,3,4,5,6,7,8,9,10,11,12,13,14,15,16,17,18,19,20,21,22,23,24,25,26,27,28,29,30],[0,1,2,3,4,5,6,7,8,9,10,11,12,13,14,15,16,17,18,19,20,21,22,23,24,25,26,27,28,29,30],[0,1,2,3,4,5,6,7,8,9,10,11,12,13,14,15,16,17,18,19,20,21,22,23,24,25,26,27,28,29,30,31,32],[0,1,2,3,4,5,6,7,8,9,10,11,12,13,14,15,16,17,18,19,20,21,22,23,24,25,26,27,28,29,30,31,32,33],[0,1,2,3,4,5,6,7,8,9,10,11,12,13,14,15,16,17,18,19,20,21,22,23,24,25,26,27,28,29,30,31,32,33,34],[0,1,2,3,4,5,6,7,8,9,10,11,12,13,14,15,16,17,18,19,20,21,22,23,24,25,26,27,28,29,30],[0,1,2,3,4,5,6,7,8,9,10,11,12,13,14,15,16,17,18,19,20,21,22,23,24,25,26,27,28,29,30,36],[0,1,2,3,4,5,6,7,8,9,10,11,12,13,14,15,16,17,18,19,20,21,22,23,24,25,26,27,28,29,30,31,32,33,34,35,36,37],[0,1,2,3,4,5,6,7,8,9,10,11,12,13,14,15,16,17,18,19,20,21,22,23,24,25,26,27,28,29,30,31,32,33,34,35,36,37,38]] (fun W=>TR B g p op sort (m:Int) name num w W∧B≤W.heap.size) (fun _=>True) ?_
 iterate 13
  apply bz
  · intro x;go_simp;done
  · intro x W R hW hF hR;obtain ⟨⟨c0,c1,c2,c3,c4,clt,cbel⟩,hBW⟩:=hW;clear hF;unfold aR
    go_simp
    simp only[aJ];exact hR _ (am _ _)
  simp only[Act.put,ac,ag,ah]
 apply bz
 · intro x;go_simp;done
 · intro x W R hW hF hR;obtain ⟨⟨c0,c1,c2,c3,c4,clt,cbel⟩,hBW⟩:=hW;clear hF;unfold aR
   go_simp
   simp only[aJ];refine (hfi W).mono ?_;rintro e w4 ⟨rfl,hb4⟩;exact ⟨_,rfl,hR _ hb4⟩
 simp only[Act.put,ac,ag,ah]
 iterate 13
  apply bz
  · intro x;go_simp;done
  · intro x W R hW hF hR;obtain ⟨⟨c0,c1,c2,c3,c4,clt,cbel⟩,hBW⟩:=hW;clear hF;unfold aR
    go_simp
    simp only[aJ];exact hR _ (am _ _)
  simp only[Act.put,ac,ag,ah]
 apply bz
 · intro x;go_simp;done
 · intro x W R hW hF hR;obtain ⟨⟨c0,c1,c2,c3,c4,clt,cbel⟩,hBW⟩:=hW;clear hF;unfold aR
   go_simp
   simp only[aJ];refine (har W).mono ?_;rintro e w4 ⟨rfl,rfl⟩;exact ⟨_,rfl,hR _ (am _ _)⟩
 simp only[Act.put,ac,ag,ah]
 iterate 12
  apply bz
  · intro x;go_simp;done
  · intro x W R hW hF hR;obtain ⟨⟨c0,c1,c2,c3,c4,clt,cbel⟩,hBW⟩:=hW;clear hF;unfold aR
    go_simp
    simp only[aJ];exact hR _ (am _ _)
  simp only[Act.put,ac,ag,ah]
 refine ie (by kernel_rfl) (by kernel_rfl) (by kernel_rfl) (fun _ _ h hb=>⟨h.1.far hb h.2,aP h.2 hb.size⟩) (fun _ _ _ _=>trivial) (fun _ _=>trivial) (⟨HT0.out.drew,by show B≤w.heap.size;omega⟩) ?_;intro x W hE hW hF hD;clear hD;replace hW:=hW rfl;obtain ⟨hTW,hBW⟩:=hW;have HT:=hid hTW;clear hTW hF hfi har g1 g2 g3 hTR;have hpI:(p:Int)<(n:Int):=by omega
 go_wp2
 clear g1n g3n
 go_loopw [8,9,10,11] (fun v e gd i wr=>∃(k q:Nat) (rest:List Nd) (Er:List Nat) (Sr:List Int),k≤m∧e=.int .i64 q∧gd=.bool true∧i=.int .i64 k∧wr.ownsRow B 3 1 v k (dz (ss.take k))∧WE q d rest (ss.drop k) Er Sr∧Agr ndZ 0 T q rest∧q+rest.length=p+1+ks.length∧TR B g p op sort (m:Int) name num w wr∧B≤wr.heap.size) (fun _ _ _ i _=>m-(intOf i).toNat)
 case atStart=>exact ⟨0,p+1,ks,Ek,Sk,aM _,rfl,rfl,rfl,World.ownsRow_nil _ _ _ _,HW.out,HA.out,rfl,HT.out,hBW⟩
 case round=>
  clear hBW;obtain ⟨k,q,rest,Er,Sr,hk,rfl,rfl,rfl,hown,hwe,hag,hlen,htr,hBW⟩:=hrel;have HO:=hid hown;have HR:=hid htr;have c4:=htr.c4;have hgl:=htr.lt
  by_cases hlt:k<m
  · have hkl:k<ss.length:=by rw[HM.out];exact hlt
    have hltI:(k:Int)<(m:Int):=by omega
    obtain ⟨sv,hsv⟩:∃sv,ss[k]=sv:=⟨_,rfl⟩
    have hdr:ss.drop k=sv::ss.drop (k+1):=by rw[List.drop_eq_getElem_cons hkl,hsv]
    rw[hdr] at hwe;obtain ⟨d',x',ks',ss',rest',Ek',Sk',Er',Sr',rfl,rfl,hwk,hno,hwr⟩:=hwe.step;rw[←List.cons_append] at hag;have hl2:q+1+ks'.length+rest'.length=p+1+ks.length:=by simp only[aw,aE] at hlen;omega
    have hcall:=HI.out d' (Nat.lt_succ_self d') T g cap q x' ks' ss' sv Ek' Sk' (dep+1) wr hwk hno hag.left (by have:=HLE.out;omega) HSZ.out (by have:=HD.out;omega) (by rw[HNN.out];exact hT) (HN.out.below htr.bel (by omega)) hgl;rw[HNN.out,show ((dep+1:Nat):Int)=(dep:Int)+1 by omega] at hcall;have hs1:1≤sv:=(HSO.out sv (hsv ▸ List.getElem_mem hkl)).1;have hspos:(0:Int)<sv:=by omega
    have HWR:=hid hwr;have HAG:Hid (Agr ndZ 0 T (q+1+ks'.length) rest'):=hid (by have:=hag.right;rw[aw] at this;rw[show q+1+ks'.length=q+(ks'.length+1) by omega];exact this);have HL2:=hid hl2
    have htk:dz (ss.take (k+1))=dz (ss.take k)++[.int .i64 sv]:=by
     rw[List.take_succ_eq_append_getElem hkl,hsv];simp[dz]
    have HTK:=hid htk;generalize hq':q+1+ks'.length=q' at *;have hq0:(0:Int)≤(q':Int):=by omega
    clear hown hwe hag hlen htr hdr hwk hno hwr hs1 hl2 htk hq' hsv
    go_wp2_with fail
    refine hcall.mono ?_;rintro e w2 ⟨rfl,hb2⟩;have HR2:=hid (HR.out.far hb2 hBW);have HO2:=hid (kS HO.out hb2 (aj _));have hBW2:=aP hBW hb2.size;have hgl2:=HR2.out.lt;clear hcall hb2 c4 hgl
    go_wp2_with (at_builtin;refine wpList_append_own _ rfl (.tmp 80) (.tmp 82) 33 rfl B 3 i0 (.int .i64 0) 1 8 underlying33 hi hz0 hz1 hz2 rfl (by decide) _ k _ rfl (HO2.out.alloc _) ⟨w2.heap.size,0,none⟩ 1 1 [.int .i64 sv] rfl rfl (World.news_of_block (cs:=#[.int .i64 sv]) (t:=3) (fr:=(0,0)) (aq w2 _)) (by simp[Value.oneCell']) (by unfold maxLen;omega) (by omega) (by simp;omega) ?_)
    intro v' w3 hown' hgrow _;have HR3:=hid ((HR2.out.far (aO w2 _) hBW2).grow hgrow (fun k e=>(HO2.out.lt k e).1) (by omega) (by simp;omega));have hBW3:B≤w3.heap.size:=aP hBW2 (aP (by simp) hgrow.size);have HO3:Hid (w3.ownsRow B 3 1 v' (k+1) (dz (ss.take (k+1)))):=hid (by rw[HTK.out];exact hown');clear hown' hgrow
    go_wp2
    go_roundw
    case rel=>exact ⟨k+1,q',rest',Er',Sr',by omega,rfl,rfl,by go_num,HO3.out,HWR.out,HAG.out,HL2.out,HR3.out,hBW3⟩
    case measure=>simp[intOf];omega
  · obtain rfl:k=m:=by omega
    have hdr:ss.drop k=[]:=List.drop_of_length_le (by rw[HM.out];exact aj _);rw[hdr] at hwe;obtain rfl:rest=[]:=by cases hwe;rfl
    have hqe:q=p+1+ks.length:=by simpa using hlen
    have htk:ss.take k=ss:=aT (by rw[HM.out];exact aj _);rw[htk] at hown;have hown2:wr.ownsRow B 3 1 u8 ss.length (dz ss):=by rw[HM.out];exact hown
    obtain ⟨ao,gg,cc,rfl,hrow⟩:=zS hown2 (by omega) (by rw[HM.out];omega);rw[HM.out];have hres:=t6 ⟨op,sort,name,num,(k:Int)⟩ first ao gg cc ss wr hrow HOP.out (by rw[HM.out];exact HRA.out);unfold Nd.val at hres;simp only at hres;rw[HM.out,HRR.out] at hres;have HQ:=hid hqe;have c0:=htr.c0;have c1:=htr.c1;have c2:=htr.c2;have c3:=htr.c3;have hbel:=hid htr.bel
    have hop1:k≠0→∃o1,first=o1∧p+1<n∧wr.cell? ⟨g,(p+1)*5,none⟩=some (.int .i64 o1):=fun h=>by
     have hne:ss≠[]:=fun e=>h (by rw[←HM.out,e];rfl)
     have hl:=HW.out.lens;have hk2:=HM.out;cases hks:ks with
     | nil=>rw[hks] at hl;simp only[aN] at hl;omega
     | cons y ys=>
       have hy:=HA.out;rw[hks] at hy;have hle2:=HLE.out;rw[hks,aw] at hle2;have hg1:=u9 hy (by omega);refine ⟨y.op,?_,by rw[←HNN.out];omega,?_⟩
       · rw[HFI.out,aB hne,hks];rfl
       · exact (HN.out.below htr.bel (by omega)) (p+1) y hg1 0 (by decide)
    have h0f:k=0→first=0:=fun h=>by rw[HFI.out,aF (List.length_eq_zero_iff.1 (by rw[HM.out];exact h))]
    clear hown hwe hag hlen hdr htk hown2 htr hrow hqe HO HR
    by_cases hk0:k=0
    · subst hk0;have hf0:=h0f rfl;subst hf0;clear hop1 h0f
      go_wp2_with fail
      refine hres.mono ?_;rintro e w2 ⟨rfl,hb2⟩;have HB2:=hid (hbel.out.trans (hb2.mono hBW));clear hb2
      go_wp2
      go_ret2
      exact ⟨by rw[←HQ.out];rfl,by rw[HBe.out];exact HB2.out⟩
    · obtain ⟨o1,rfl,hpn,c10⟩:=hop1 hk0;have hk0I:(0:Int)<(k:Int):=by omega
      have hpnI:(p:Int)+1<(n:Int):=by omega
      clear h0f
      go_wp2_with fail
      refine hres.mono ?_;rintro e w2 ⟨rfl,hb2⟩;have HB2:=hid (hbel.out.trans (hb2.mono hBW));clear hb2
      go_wp2
      go_ret2
      exact ⟨by rw[←HQ.out];rfl,by rw[HBe.out];exact HB2.out⟩
def va (w:World) (e:Ending) (w':World):Prop:=∃a n c,e=.returned (.slice a n c)∧Below w.heap.size w w'
theorem fj {w:World} {R:Nat} {cs:Array Value} {t:TypeId} (h:w.heap[R]? =some (.cells cs t (0,0))) (i:Nat):w.frozen? ⟨R,i,none⟩=false:=by
 unfold World.frozen?;rw[h]
 simp
theorem rX {w:World} {B g:Nat} (hne:g≠B) (i j k l:Nat) (a b c:Value):(((w.setCell ⟨B,i,none⟩ a).setCell ⟨B,j,none⟩ b).setCell ⟨B,k,none⟩ c).cell? ⟨g,l,none⟩=w.cell? ⟨g,l,none⟩:=
 World.cell?_of_block (((aG _ _ _ _ hne).trans (aG _ _ _ _ hne)).trans (aG _ _ _ _ hne))
theorem t7 (g cap n:Nat) (sort:Int) (name:ByteArray) (w:World) (hn:1≤n) (hnx:n≤20000) (hg:g<w.heap.size) (h1:w.cell? ⟨g,1,none⟩=some (.int .i64 sort)) (h2:w.cell? ⟨g,2,none⟩=some (.string name))
    (hcs:∀W,Below w.heap.size w W→Calls prog 199 #[.slice (some ⟨g,0,none⟩) n cap,.int .i64 0] W (va W)):
    Calls prog 163 #[.slice (some ⟨g,0,none⟩) n cap,.int .i64 0] w fun e w'=>∃a k c,e=.returned (.agg #[.string name,.slice a k c,.int .i64 sort])∧Below w.heap.size w w':=by
 have HC:=hid hcs;clear hcs;have hn0:(0:Int)<(n:Int):=by omega
 have hn2:0<n:=by omega
 go_enter func163,ntmps163
 go_wp2
 have hal:=aO w (.cells #[.string ⟨#[]⟩,.slice none 0 0,.int .i64 0] 187);have hbx:=aq w (.cells #[.string ⟨#[]⟩,.slice none 0 0,.int .i64 0] 187);have hS1:(w.alloc (.cells #[.string ⟨#[]⟩,.slice none 0 0,.int .i64 0] 187)).heap.size=w.heap.size+1:=by simp
 have c1:=(hal.cell (p:=⟨g,1,none⟩) hg).trans h1;have c2:=(hal.cell (p:=⟨g,2,none⟩) hg).trans h2;generalize w.alloc (.cells #[.string ⟨#[]⟩,.slice none 0 0,.int .i64 0] 187)=w0 at *;have hcs:=HC.out w0.drew (aZ hal 1);have HAL:=hid hal;have HBX:=hid hbx;have x0:=aa hbx 0;have x1:=aa hbx 1;have x2:=aa hbx 2;have z0:=fj hbx 0;have z1:=fj hbx 1;have z2:=fj hbx 2;clear HC hal h1 h2;have hgS:g≠w.heap.size:=by omega
 go_region_held3 (fun w'=>w'.cell? ⟨g,1,none⟩=some (.int .i64 sort)∧w'.cell? ⟨g,2,none⟩=some (.string name)) (first | exact ⟨q1,q2⟩ | exact ⟨c1,c2⟩ | exact ⟨(rX hgS _ _ _ _ _ _ _).trans q1,(rX hgS _ _ _ _ _ _ _).trans q2⟩ | go_keep) ((go_at_call 199;refine hcs.mono ?_;rintro e w3 ⟨a,k,c,rfl,hb3⟩;have q1:=(hb3.cell (p:=⟨g,1,none⟩) (by show g<w0.heap.size;omega)).trans c1;have q2:=(hb3.cell (p:=⟨g,2,none⟩) (by show g<w0.heap.size;omega)).trans c2;have q3:=(hb3.block _ (by show w.heap.size<w0.heap.size;omega)).trans HBX.out;have x0:=aa q3 0;have x1:=aa q3 1;have x2:=aa q3 2;have z0:=fj q3 0;have z1:=fj q3 1;have z2:=fj q3 2;have HB3:=hid hb3;clear hb3))
 have hst:=heap_set (heap_set (heap_set q3 0 (.string name)) 1 (.slice a k c)) 2 (.int .i64 sort);have HB5:Hid (Below w.heap.size w (((w3.setCell ⟨w.heap.size,0,none⟩ (.string name)).setCell ⟨w.heap.size,1,none⟩ (.slice a k c)).setCell ⟨w.heap.size,2,none⟩ (.int .i64 sort))):=hid (((((aZ HAL.out 1).trans (HB3.out.mono (by show w.heap.size≤w0.heap.size;omega))).setCell (show w.heap.size≤w.heap.size from aj _) _).setCell (show w.heap.size≤w.heap.size from aj _) _).setCell (show w.heap.size≤w.heap.size from aj _) _);generalize ((w3.setCell ⟨w.heap.size,0,none⟩ (.string name)).setCell ⟨w.heap.size,1,none⟩ (.slice a k c)).setCell ⟨w.heap.size,2,none⟩ (.int .i64 sort)=w5 at *;have y0:w5.cell? ⟨w.heap.size,0,none⟩=some (.string name):=(aa hst 0).trans rfl;have y1:w5.cell? ⟨w.heap.size,1,none⟩=some (.slice a k c):=(aa hst 1).trans rfl;have y2:w5.cell? ⟨w.heap.size,2,none⟩=some (.int .i64 sort):=(aa hst 2).trans rfl;clear hst HB3 q1 q2 q3 x0 x1 x2 z0 z1 z2
 go_wp2
 refine bodyPost_ret (v:=.agg #[.string name,.slice a k c,.int .i64 sort]) ?_ rfl ⟨a,k,c,rfl,HB5.out⟩
 simp[results,results163,go_sem,y0,y1,y2]
theorem zV:(prog.info? 185).map (fun i=>(i.zero,i.size,i.bytes))=some (some (.agg #[.string ⟨#[]⟩,.int .i64 0]),2,24):=by kernel_rfl
def vrs (U:List (ByteArray×Int)):List Value:=U.flatMap fun p=>[.string p.1,.int .i64 p.2]
theorem zW (U V:List (ByteArray×Int)):vrs (U++V)=vrs U++vrs V:=by simp[vrs]
theorem ve:∀(U:List (ByteArray×Int)) (j:Nat) (p:ByteArray×Int),U[j]? =some p→(vrs U)[j*2]? =some (.string p.1)∧(vrs U)[j*2+1]? =some (.int .i64 p.2):=by
 intro U
 induction U with
 | nil=>intro j p h;cases h
 | cons a U ih=>
   intro j p h;have e:vrs (a::U)=.string a.1::.int .i64 a.2::vrs U:=rfl;cases j with
   | zero=>rw[List.getElem?_cons_zero] at h;cases h;exact ⟨rfl,rfl⟩
   | succ j=>
     rw[List.getElem?_cons_succ] at h;have:=ih j p h;rw[e,show (j+1)*2=j*2+2 by omega];exact this
structure UV1 (B g i:Nat) (op sort:Int) (name:ByteArray) (w:World) (v:Value) (U:List (ByteArray×Int)) (W:World):Prop where
 c0:W.cell? ⟨g,i*5,none⟩=some (.int .i64 op)
 c1:W.cell? ⟨g,i*5+1,none⟩=some (.int .i64 sort)
 c2:W.cell? ⟨g,i*5+2,none⟩=some (.string name)
 lt:g<B
 hs:B≤W.heap.size
 bel:Below B w W
 row:W.ownsRow B 185 2 v U.length (vrs U)
theorem UV1.far {B g i:Nat} {op sort:Int} {name:ByteArray} {w:World} {v:Value} {U:List (ByteArray×Int)} {W W':World} (h:UV1 B g i op sort name w v U W) (hb:Below W.heap.size W W'):UV1 B g i op sort name w v U W':=
 have hl:=aC h.lt h.hs
 ⟨(hb.cell (p:=⟨g,i*5,none⟩) hl).trans h.c0,(hb.cell (p:=⟨g,i*5+1,none⟩) hl).trans h.c1,(hb.cell (p:=⟨g,i*5+2,none⟩) hl).trans h.c2,h.lt,aP h.hs hb.size,h.bel.trans (hb.mono h.hs),kS h.row hb (aj _)⟩
theorem UV1.drew {B g i:Nat} {op sort:Int} {name:ByteArray} {w:World} {v:Value} {U:List (ByteArray×Int)} {W:World} (h:UV1 B g i op sort name w v U W):UV1 B g i op sort name w v U W.drew:=
 ⟨h.c0,h.c1,h.c2,h.lt,h.hs,aZ h.bel 1,h.row⟩
theorem UV1.drewN {B g i:Nat} {op sort:Int} {name:ByteArray} {w:World} {v:Value} {U:List (ByteArray×Int)} {W:World} (h:UV1 B g i op sort name w v U W) (n:Nat):UV1 B g i op sort name w v U (W.drewN n):=
 ⟨h.c0,h.c1,h.c2,h.lt,h.hs,aZ h.bel n,h.row⟩
theorem UV1.grow {B g i:Nat} {op sort:Int} {name:ByteArray} {w:World} {v v':Value} {U U':List (ByteArray×Int)} {W W':World} (h:UV1 B g i op sort name w v U W) (hg:W.grownBy W' v.ownBlock) (hr:W'.ownsRow B 185 2 v' U'.length (vrs U')):UV1 B g i op sort name w v' U' W':=by
 have hl:=aC h.lt h.hs
 have hne:∀j,W'.cell? ⟨g,j,none⟩=W.cell? ⟨g,j,none⟩:=fun j=>by
  rw[World.cell?,World.cell?,hg.block g hl (fun e=>by have:=(h.row.lt g e.symm).1;have:=h.lt;omega)]
 exact ⟨(hne _).trans h.c0,(hne _).trans h.c1,(hne _).trans h.c2,h.lt,aP h.hs hg.size,h.bel.grown hg h.hs (fun k e=>(h.row.lt k e).1),hr⟩
theorem yC:(prog.info? 187).map (fun i=>(i.zero,i.size,i.bytes))=some (some (.agg #[.string ⟨#[]⟩,.slice none 0 0,.int .i64 0]),3,48):=by kernel_rfl
def FRow (V:List (ByteArray×Int)) (f:Value) (nf:Nat) (W:World):Prop:=
 (nf=0∧f=.slice none 0 0)∨(nf=1∧∃gf cf nm,f=.slice (some ⟨gf,0,none⟩) 1 cf∧gf<W.heap.size∧W.cell? ⟨gf,0,none⟩=some (.string nm)∧cp nm V=none)
theorem FRow.far {V:List (ByteArray×Int)} {f:Value} {nf:Nat} {W W':World} (h:FRow V f nf W) (hb:Below W.heap.size W W'):FRow V f nf W':=by
 rcases h with h | ⟨h,gf,cf,nm,h1,h2,h3,h4⟩
 · exact .inl h
 · exact .inr ⟨h,gf,cf,nm,h1,aC h2 hb.size,(hb.cell (p:=⟨gf,0,none⟩) h2).trans h3,h4⟩
structure UE (V:List (ByteArray×Int)) (B:Nat) (w:World) (B1:Nat) (v:Value) (U:List (ByteArray×Int)) (f:Value) (nf:Nat) (W:World):Prop where
 row:W.ownsRow B1 185 2 v U.length (vrs U)
 fr:FRow V f nf W
 bel:Below B w W
 us:∀p∈U,cp p.1 V=some p.2
 hs:B1≤W.heap.size
theorem UE.drewN {V:List (ByteArray×Int)} {B:Nat} {w:World} {B1:Nat} {v:Value} {U:List (ByteArray×Int)} {f:Value} {nf:Nat} {W:World} (h:UE V B w B1 v U f nf W) (n:Nat):UE V B w B1 v U f nf (W.drewN n):=
 ⟨h.row,h.fr.far (aZ (am _ _) n),aZ h.bel n,h.us,h.hs⟩
theorem rY (V:List (ByteArray×Int)) (T:List Nd) (g cap:Nat) (w:World) (hN:NodesAt w g T) (hg:g<w.heap.size) (hT:T.length≤20000) (hV:∀(k:Nat) (x:Nd),T[k]? =some x→(x.op≠5∧(x.op=4→cp x.name V=some x.sort))∨(k=0∧x.op=5∧cp x.name V=none))
    (hcs:∀x,T[0]? =some x→x.op=5→∀W,Below w.heap.size w W→Calls prog 199 #[.slice (some ⟨g,0,none⟩) T.length cap,.int .i64 0] W (va W)):
    Calls prog 116 #[.slice (some ⟨g,0,none⟩) T.length cap] w fun e w'=>e=.returned (.bool true)∧Below w.heap.size w w':=by
 obtain ⟨i0,hi,hz0,hz1,hz2⟩:=info_parts zV;obtain ⟨i1,ji,jz0,jz1,jz2⟩:=info_parts yC;have HN:=hid hN;have HV:=hid hV;obtain ⟨n,hnn⟩:∃n,T.length=n:=⟨_,rfl⟩
 have HNN:=hid hnn;rw[hnn] at hT hcs ⊢;have HCS:=hid hcs;clear hN hV hnn hcs;generalize hB:w.heap.size=B at *;have HBe:=hid hB
 go_enter func116,ntmps116
 go_wp2
 go_loopw [3,4,5] (fun v f i wr=>∃(k nf:Nat) (U:List (ByteArray×Int)) (w1:World),k≤n∧FRow V f nf w1∧i=.int .i64 k∧U.length≤k∧(∀p∈U,cp p.1 V=some p.2)∧wr.ownsRow w1.heap.size 185 2 v U.length (vrs U)∧Below B w w1∧Below w1.heap.size w1 wr∧(k=0→nf=0∧U=[]∧v=.slice none 0 0)) (fun _ _ i _=>n-(intOf i).toNat)
 case atStart=>exact ⟨0,0,[],w,aM _,.inl ⟨rfl,rfl⟩,rfl,aM _,(fun p h=>by cases h),World.ownsRow_nil _ _ _ _,am _ _,am _ _,fun _=>⟨rfl,rfl,rfl⟩⟩
 case round=>
  obtain ⟨k,nf,U,w1,hk,hfr,rfl,hUk,hU,hrow,hb1,hbel,hz⟩:=hrel;have HU:=hid hU;have HF:=hid hfr;have HB1:=hid hb1;have hB1:B≤w1.heap.size:=by have:=hb1.size;omega
  have hg1:g<w1.heap.size:=by omega
  have hbs:w1.heap.size≤wr.heap.size:=hbel.size
  by_cases hlt:k<n
  · have hltI:(k:Int)<(n:Int):=by omega
    have hkT:k<T.length:=by rw[HNN.out];exact hlt
    have hx:T[k]? =some T[k]:=ay hkT;have hnm:=HV.out k T[k] hx;have hNw:=(HN.out.below hb1 hg).below hbel hg1;have d0:=hNw k T[k] hx 0 (by decide);have d1:=hNw k T[k] hx 1 (by decide);have d2:=hNw k T[k] hx 2 (by decide);generalize T[k]=x at *;obtain ⟨op,sort,name,num,kids⟩:=x;have HX:Hid (UV1 w1.heap.size g k op sort name w1 u3 U wr):=hid ⟨d0,d1,d2,hg1,hbs,hbel,hrow⟩;simp only at hnm;rcases hnm with hnm | ⟨rfl,rfl,hlk⟩
    rotate_left
    · obtain ⟨rfl,rfl,rfl⟩:=hz rfl
      obtain rfl:u4=.slice none 0 0:=by
       rcases hfr with ⟨-,h⟩ | ⟨h,-⟩
       · exact h
       · cases h
      have c0:wr.cell? ⟨g,0,none⟩=some (.int .i64 5):=d0;rw[show ((0:Nat):Int)=0 from rfl] at hltI ⊢;have hbw:Below B w wr:=hb1.trans (hbel.mono hB1);have hfa:=t7 g cap n sort name wr (by omega) hT (by omega) d1 d2 (fun W hW=>HCS.out _ hx rfl W (hbw.trans (hW.mono (by omega))));have HBW:=hid hbw;have HLK:=hid hlk;clear hU hrow hbel hNw hx d0 d1 d2 hfr hb1 hz HX HF HB1 hbw hlk
      go_wp2_with fail
      refine hfa.mono ?_;rintro e w2 ⟨a,kk,c,rfl,hb2⟩;have HB2:=hid (HBW.out.trans (hb2.mono (by have:=HBW.out.size;omega)));have hal:=aO w2 (.cells #[.string name,.slice a kk c,.int .i64 sort] 187);have hbx:=aq w2 (.cells #[.string name,.slice a kk c,.int .i64 sort] 187);have y0:=aa hbx 0;have y1:=aa hbx 1;have y2:=aa hbx 2;have hs2:=HB2.out.size;have HB3:Hid (Below B w (w2.alloc (.cells #[.string name,.slice a kk c,.int .i64 sort] 187))):=hid (HB2.out.trans (hal.mono (by omega)));clear hb2 hfa HB2 hal hbx HBW
      go_wp2
      generalize w2.alloc (.cells #[.string name,.slice a kk c,.int .i64 sort] 187)=w3 at *;generalize w2.heap.size=S2 at *
      go_loop [9,10] (fun b i=>b=.bool false∧i=.int .i64 0) (fun _ _=>0)
      case atStart=>exact ⟨rfl,rfl⟩
      case round=>
       obtain ⟨rfl,rfl⟩:=hrel
       go_wp2_with (at_builtin;refine wpList_append_own _ rfl (.tmp 110) (.tmp 112) 183 rfl (w3.heap.size+1) 187 i1 _ 3 48 underlying183 ji jz0 jz1 jz2 rfl (by decide) _ 0 _ rfl (World.ownsRow_nil _ _ _ _) ⟨w3.heap.size,0,none⟩ 1 1 [.string name,.slice a kk c,.int .i64 sort] rfl rfl (World.news_of_block (cs:=#[.string name,.slice a kk c,.int .i64 sort]) (t:=187) (fr:=(0,0)) (aq w3 _)) (by simp[Value.oneCell']) (by unfold maxLen;omega) (by omega) (by simp) ?_)
       intro v' w4 hown' hgrow _;have hb4:Below w3.heap.size w3 w4:=(aO w3 _).grown hgrow (by simp) (fun k e=>by cases e);obtain ⟨gf,cf,rfl,-,-,-⟩:=bP hown' (by omega);have HF4:Hid (FRow V (.slice (some ⟨gf,0,none⟩) (0+1) cf) 1 w4):=hid (.inr ⟨rfl,gf,cf,name,rfl,(hown'.lt gf rfl).2,(hown'.cellAt 0 (by simp)).trans rfl,HLK.out⟩);have HB4:=hid (HB3.out.trans (hb4.mono (by have:=HB3.out.size;omega)));clear hown' hgrow hb4
       go_wp2
       go_roundw
       case rel=>exact ⟨1,1,[],w4,hlt,HF4.out,rfl,aM _,(fun p h=>by cases h),World.ownsRow_nil _ _ _ _,HB4.out,am _ _,fun e=>absurd e (by omega)⟩
       case measure=>simp[intOf];omega
    have c0:wr.cell? ⟨g,k*5,none⟩=some (.int .i64 op):=d0;clear hU hrow hbel hNw hx d0 d1 d2 hz hb1 hfr
    by_cases h4:op=4
    · subst h4;have hlk:=hnm.2 rfl;have HLK:=hid hlk;clear hnm hlk
      go_wp2
      go_loopw [6,7] (fun b j wr=>∃(bb:Bool) (q:Nat),b=.bool bb∧j=.int .i64 q∧q≤U.length∧UV1 w1.heap.size g k 4 sort name w1 u3 U wr) (fun _ j _=>U.length-(intOf j).toNat)
      case atStart=>exact ⟨false,0,rfl,rfl,aM _,HX.out⟩
      case round=>
       clear HX;obtain ⟨bb,q,rfl,rfl,hq,hX⟩:=hrel;have HX:=hid hX;obtain ⟨gv0,cv0,hv0⟩:=cR hX.row
       by_cases hql:q<U.length
       · obtain ⟨gv,cv,rfl,-,-,-⟩:=bP hX.row (by omega);obtain ⟨hn1,hn2⟩:=ve U q U[q] (ay hql);have e1:_root_.Go.World.cell? wr ⟨gv,q*2,none⟩=_:=(hX.row.cellAt (q*2) (by omega)).trans hn1;have e2:_root_.Go.World.cell? wr ⟨gv,q*2+1,none⟩=_:=(hX.row.cellAt (q*2+1) (by omega)).trans hn2;have hlu:=HU.out U[q] (List.getElem_mem hql);have hc1:=hX.c1;have hc2:=hX.c2;generalize U[q]=pq at *;obtain ⟨kq,sq⟩:=pq;simp only at e1 e2 hlu;obtain ⟨ul,hul⟩:∃ul,U.length=ul:=⟨_,rfl⟩
         have hqI:(q:Int)<(ul:Int):=by omega
         clear hX hn1 hn2 hv0
         by_cases hkn:kq=name
         · subst hkn;have hss:sq=sort:=by rw[HLK.out] at hlu;exact (aI hlu).symm
           subst hss;clear hlu;have hul':ul≤n:=by omega
           rw[hul] at hq HX ⊢;have HUL:=hid hul;clear hul
           go_wp2
           go_quiet (fail)
           rename_i nq
           go_wp2
           go_quiet (fail)
           rename_i nq2
           go_wp2
           go_roundw
           case rel=>exact ⟨true,q+1,rfl,by go_num,by omega,HX.out.drewN _⟩
           case measure=>simp[intOf];omega
         · have hkf:(kq.toList==name.toList)=false:=by rw[beq_eq_false_iff_ne];exact fun e=>hkn ((eR e).trans (eR rfl).symm)
           clear hlu;have hul':ul≤n:=by omega
           rw[hul] at hq HX ⊢;have HUL:=hid hul;clear hul
           go_wp2
           go_quiet (fail)
           rename_i nq
           go_wp2
           go_roundw
           case rel=>exact ⟨bb,q+1,rfl,by go_num,by omega,HX.out.drewN _⟩
           case measure=>simp[intOf];omega
       · subst hv0;have hqe:(U.length:Int)≤(q:Int):=by omega
         cases bb
         · have HAA:Hid (∀p∈U++[(name,sort)],cp p.1 V=some p.2):=hid (fun p hp=>by
             rcases List.mem_append.1 hp with hp | hp
             · exact HU.out p hp
             · rw[List.mem_singleton] at hp;subst hp;exact HLK.out)
           obtain ⟨ul,hul⟩:∃ul,U.length=ul:=⟨_,rfl⟩
           rw[hul] at hq hql hqe HX hUk ⊢;have HUL:=hid hul;clear hX hul
           go_wp2
           refine cF [[],[],[],[1,2],[1,2,3],[1,2,3,4],[],[],[6,7],[6,7,8],[6,7,8,9],[1,2,3,4,5,6,7,8,9,10],[1,2,3,4,5,6,7,8,9,10,11],[0,1,2,3,4,5,6,7,8,9,10,11,12],[0,1,2,3,4,5,6,7,8,9,10,11,12,13]] (fun W=>UV1 w1.heap.size g k 4 sort name w1 (.slice gv0 ul cv0) U W) (fun _=>True) ?_
           iterate 12
            apply bz
            · intro x;go_simp;done
            · intro x W R hW hF hR;have hc1:=hW.c1;have hc2:=hW.c2;clear hF;unfold aR
              go_simp
              simp only[aJ];exact hR _ (am _ _)
            simp only[Act.put,ac,ag,ah]
           refine mj (fun u W=>∃B,u=.slice (some ⟨B,0,none⟩) 1 1∧W.heap[B]? =some (.cells #[.string name,.int .i64 sort] 185 (0,0))) (fun _ _ _ h hb=>let ⟨B,h1,h2⟩:=h;⟨B,h1,(hb.block _ (ar h2)).trans h2⟩) ?_ ?_ ?_
           · intro x;go_simp;done
           · intro x W R hW hF hR;clear hF;unfold aR
             go_simp
             simp only[aJ];exact hR _ _ ⟨W.heap.size,rfl,aq W _⟩ (aO W _)
           simp only[Act.put,ac,ag,ah,aw,aN,Nat.zero_add,Nat.reduceAdd];refine nY (fun x W=>UV1 w1.heap.size g k 4 sort name w1 (x 13) (U++[(name,sort)]) W) (fun _ _ _ h hb=>h.far hb) (fun x x' w h hT=>by have e:=h 13 (.inl rfl);rw[e] at hT;exact hT) ?_ ?_ ?_
           · intro x;go_simp;done
           · intro x W R hW hF hD hR;obtain ⟨B2,hx2,hB2⟩:=hF.1.2 rfl rfl rfl;clear hF;simp only[hx2];have hrw:=hW.row;rw[HUL.out] at hrw;refine jP (.tmp 56) (.tmp 68) 182 rfl w1.heap.size 185 i0 _ 2 24 underlying182 hi hz0 hz1 hz2 rfl (by decide) (.slice gv0 ul cv0) ul (vrs U) rfl hrw ⟨B2,0,none⟩ 1 1 [.string name,.int .i64 sort] rfl rfl (World.news_of_block (cs:=#[.string name,.int .i64 sort]) (t:=185) (fr:=(0,0)) hB2) (by simp[Value.oneCell']) (by unfold maxLen;omega) (by omega) hW.hs ?_;intro v' w' hrow hg;refine hR _ _ ?_ trivial hg.size;show UV1 w1.heap.size g k 4 sort name w1 (dK x 13 v' 13) (U++[(name,sort)]) w';rw[dM];refine hW.grow hg ?_;rw[aE,HUL.out,zW];exact hrow
           simp only[Act.put,ac,ag,ah,aw,aN,Nat.zero_add,Nat.reduceAdd];refine xf (fun x=>x 14=x 13) (fun x x' hx h=>by rw[←hx 14 (.inl rfl),←hx 13 (.inr (List.contains_iff_mem.1 rfl))];exact h) ?_ ?_ ?_
           · intro x;go_simp;done
           · intro x W R hW hF hR;clear hF hW;unfold aR
             go_simp
             simp only[aJ];refine hR _ _ ?_ (am _ _);show dK x 14 _ 14=dK x 14 _ 13;rw[dM,dS (i:=14) (j:=13) _ _ (by decide)]
           simp only[Act.put,ac,ag,ah,aw,aN,Nat.zero_add,Nat.reduceAdd];refine ie (by kernel_rfl) (by kernel_rfl) (by kernel_rfl) (fun _ _ h hb=>h.far hb) (fun _ _ _ _=>trivial) (fun _ _=>trivial) (HX.out.far (am _ _).drew) ?_;intro x W hE hW hF hD;clear hD;have hY:=hF.2.1.2 rfl;have hx14:=hF.1.1;simp only[AK.free] at hx14;simp only[AK.fact] at hY;clear hF hW;simp only[hx14];generalize x 13=v13 at *
           go_wp2
           go_roundw
           case rel=>exact ⟨k+1,nf,U++[(name,sort)],w1,by omega,HF.out,by go_num,by rw[aE,HUL.out];simp;omega,HAA.out,hY.row,HB1.out,hY.bel,fun e=>absurd e (by omega)⟩
           case measure=>simp[intOf];omega
         · go_wp2
           go_roundw
           case rel=>exact ⟨k+1,nf,U,w1,by omega,HF.out,by go_num,by omega,HU.out,HX.out.row,HB1.out,HX.out.bel,fun e=>absurd e (by omega)⟩
           case measure=>simp[intOf];omega
    · have h4f:(op==4)=false:=by simp[h4]
      have h5f:(op==5)=false:=by simp[hnm.1]
      have h5:=hnm.1;clear hnm
      go_wp2
      go_roundw
      case rel=>exact ⟨k+1,nf,U,w1,by omega,HF.out,by go_num,by omega,HU.out,HX.out.row,HB1.out,HX.out.bel,fun e=>absurd e (by omega)⟩
      case measure=>simp[intOf];omega
  · obtain ⟨av,cv,rfl⟩:=cR hrow;have HE:Hid (UE V B w w1.heap.size (.slice av U.length cv) U u4 nf wr):=hid ⟨hrow,hfr.far hbel,hb1.trans (hbel.mono hB1),hU,hbel.size⟩;obtain ⟨ul,hul⟩:∃ul,U.length=ul:=⟨_,rfl⟩
    rw[hul] at hUk HE ⊢;have HUL:=hid hul;have hul2:ul≤n:=by omega
    obtain ⟨af,cf,hu4,hnf⟩:∃af cf,u4=.slice af nf cf∧nf≤1:=by
     rcases hfr with ⟨rfl,h⟩ | ⟨rfl,gf,cf,nm,h,-⟩
     · exact ⟨_,_,h,aM _⟩
     · exact ⟨_,_,h,aj _⟩
    subst hu4;clear hU hrow hbel hul HU HF hfr hb1 hz;generalize w1.heap.size=B1 at *
    go_wp2
    go_loopw [11] (fun i wr=>∃q:Nat,q≤ul∧i=.int .i64 q∧UE V B w B1 (.slice av ul cv) U (.slice af nf cf) nf wr) (fun i _=>ul-(intOf i).toNat)
    case atStart=>exact ⟨0,aM _,rfl,HE.out⟩
    case round=>
     clear HE;obtain ⟨q,hq,rfl,hE⟩:=hrel;have HE:=hid hE;clear hE
     by_cases hql:q<ul
     · have hqlI:(q:Int)<(ul:Int):=by omega
       go_wp2
       go_loopw [12] (fun i wr=>∃r:Nat,r≤nf∧i=.int .i64 r∧UE V B w B1 (.slice av ul cv) U (.slice af nf cf) nf wr) (fun i _=>nf-(intOf i).toNat)
       case atStart=>exact ⟨0,aM _,rfl,HE.out⟩
       case round=>
        clear HE;obtain ⟨r,hr,rfl,hE⟩:=hrel;have HE:=hid hE
        by_cases hrl:r<nf
        · obtain rfl:r=0:=by omega
          obtain rfl:nf=1:=by omega
          have hqU:q<U.length:=by rw[HUL.out];exact hql
          have hrow:=hE.row;rw[HUL.out] at hrow;obtain ⟨gv,cv',hve,-,-,-⟩:=bP hrow (by omega);injection hve with e1 e2 e3;subst e1;subst e3;have e1:_root_.Go.World.cell? wr ⟨gv,q*2,none⟩=_:=(hrow.cellAt (q*2) (by omega)).trans (ve U q U[q] (ay hqU)).1;have hlu:=hE.us U[q] (List.getElem_mem hqU)
          obtain ⟨gf,cf',nm,hfe,hgf,hcf,hlf⟩:∃gf cf' nm,(.slice af 1 cf:Value)=.slice (some ⟨gf,0,none⟩) 1 cf'∧gf<wr.heap.size∧wr.cell? ⟨gf,0,none⟩=some (.string nm)∧cp nm V=none:=by
           rcases hE.fr with ⟨h,-⟩ | ⟨-,h⟩
           · cases h
           · exact h
          injection hfe with f1 f2 f3;subst f1;subst f3;generalize U[q]=pq at *;obtain ⟨kq,sq⟩:=pq;simp only at e1 hlu
          have hkf:(kq.toList==nm.toList)=false:=by
           rw[beq_eq_false_iff_ne];intro e;have e2:=(eR e).trans (eR rfl).symm;rw[e2,hlf] at hlu;cases hlu
          clear hE hrow hlu hlf;rw[show ((0:Nat):Int)=0 from rfl]
          go_wp2
          go_quiet (fail)
          rename_i nq
          go_wp2
          go_roundw
          case rel=>exact ⟨1,aj _,rfl,HE.out.drewN _⟩
          case measure=>simp[intOf]
        · have hrn:(nf:Int)≤(r:Int):=by omega
          clear hE
          go_wp2
          go_roundw
          case rel=>exact ⟨q+1,by omega,by go_num,HE.out⟩
          case measure=>simp[intOf];omega
     · have hqn:(ul:Int)≤(q:Int):=by omega
       go_wp2
       go_ret
       exact ⟨rfl,HE.out.bel⟩
theorem t8 (V:List (ByteArray×Int)) (T:List Nd) (g cap:Nat) (w:World) (hN:NodesAt w g T) (hg:g<w.heap.size) (hT:T.length≤20000) (hV:Nm V T):
    Calls prog 116 #[.slice (some ⟨g,0,none⟩) T.length cap] w fun e w'=>e=.returned (.bool true)∧Below w.heap.size w w':=
 rY V T g cap w hN hg hT (fun _ x hx=>.inl (hV x (List.mem_of_getElem? hx))) (fun x hx h5=>absurd h5 (hV x (List.mem_of_getElem? hx)).1)
theorem pU (d:Nat) (T:List Nd) (s:Int) (g cap:Nat) (w:World) (hw:WT d T s) (hd:d≤257) (hl:T.length≤20000) (hsz:∀y∈T,y.num.size≤1000) (hN:NodesAt w g T) (hg:g<w.heap.size)
    (hu:∀w',Below w.heap.size w w'→Calls prog 116 #[.slice (some ⟨g,0,none⟩) T.length cap] w' fun e w''=>e=.returned (.bool true)∧Below w'.heap.size w' w''):
    Calls prog 76 #[.slice (some ⟨g,0,none⟩) T.length cap] w fun e w'=>e=.returned (.int .i64 s)∧Below w.heap.size w w':=by
 obtain ⟨E,S,hwe⟩:=hw;have hs1:=(hwe.sorts s (by simp)).1;have hwe0:=hwe;obtain ⟨d',x,ks,ss,rest',Ek,Sk,Er,Sr,rfl,rfl,hk,hno,hr⟩:=hwe.step;obtain rfl:rest'=[]:=by cases hr;rfl
 have HU:=hid hu;clear hu;rw[List.append_nil] at hl hsz hN HU ⊢;have hlen:(x::ks).length=0+1+ks.length:=by rw[aw];omega
 have ht:=zU d' (x::ks) g cap 0 x ks ss s Ek Sk 0 w hk hno (fun i hi=>by simp) (by omega) hsz (by omega) (by omega) hN hg;rw[←hlen] at ht;generalize (x::ks).length=n at *;have hn0:¬(20000:Int)<(n:Int):=by omega
 have hs0:¬s=0:=by omega
 have hse:(s==0)=false:=by simp[hs0]
 clear hwe hwe0 hk hno hr hN hsz hlen
 go_enter func76,ntmps76
 go_wp2_with fail
 refine ht.mono ?_;rintro e w1 ⟨rfl,hb1⟩;have hu:=HU.out w1 hb1;have HB:=hid hb1;clear ht hb1
 go_wp2_with fail
 refine hu.mono ?_;rintro e w2 ⟨rfl,hb2⟩;have HB2:=hid (HB.out.trans (hb2.mono HB.out.size));clear hb2 hu
 go_wp2
 go_ret
 exact ⟨rfl,HB2.out⟩
theorem pV (V:List (ByteArray×Int)) (d:Nat) (T:List Nd) (s:Int) (g cap:Nat) (w:World) (hw:WT d T s) (hd:d≤257) (hl:T.length≤20000) (hV:Nm V T) (hsz:∀y∈T,y.num.size≤1000) (hN:NodesAt w g T) (hg:g<w.heap.size):
    Calls prog 76 #[.slice (some ⟨g,0,none⟩) T.length cap] w fun e w'=>e=.returned (.int .i64 s)∧Below w.heap.size w w':=
 pU d T s g cap w hw hd hl hsz hN hg fun w' hb=>t8 V T g cap w' (hN.below hb hg) (aC hg hb.size) hl hV
theorem lK {T:List Nd} {d:Nat} {s:Int} {g cap:Nat} {w:World} (hw:WT d T s)
    (h:Calls prog 76 #[.slice (some ⟨g,0,none⟩) T.length cap] w fun e w'=>e=.returned (.int .i64 s)∧Below w.heap.size w w'):
    Calls prog 51 #[.slice (some ⟨g,0,none⟩) T.length cap] w fun e w'=>e=.returned (.bool true)∧Below w.heap.size w w':=by
 obtain ⟨E,S,hwe⟩:=hw;have hs1:=(hwe.sorts s (by simp)).1;have hs0:(0:Int)<s:=by omega
 clear hwe;generalize T.length=n at *
 go_enter func51,ntmps51
 go_wp2_with fail
 refine h.mono ?_;rintro e w1 ⟨rfl,hb1⟩;have HB:=hid hb1;clear h hb1
 go_wp2
 go_ret
 exact ⟨rfl,HB.out⟩
theorem dF (V:List (ByteArray×Int)) (d:Nat) (T:List Nd) (s:Int) (g cap:Nat) (w:World) (hw:WT d T s) (hd:d≤257) (hl:T.length≤20000) (hV:Nm V T) (hsz:∀y∈T,y.num.size≤1000) (hN:NodesAt w g T) (hg:g<w.heap.size):
    Calls prog 51 #[.slice (some ⟨g,0,none⟩) T.length cap] w fun e w'=>e=.returned (.bool true)∧Below w.heap.size w w':=
 lK hw (pV V d T s g cap w hw hd hl hV hsz hN hg)
def OnePost (x:Nd) (w:World) (e:Ending) (w':World):Prop:=∃g,e=.returned (.slice (some ⟨g,0,none⟩) 1 1)∧NodesAt w' g [x]∧g<w'.heap.size∧w.heap.size≤g∧Below w.heap.size w w'
theorem OnePost.of (x:Nd) (w:World):OnePost x w (.returned (.slice (some ⟨w.heap.size,0,none⟩) 1 1)) (w.alloc (.cells #[.int .i64 x.op,.int .i64 x.sort,.string x.name,.string x.num,.int .i64 x.kids] 57)):=by
 refine ⟨_,rfl,?_,by simp,aj _,aO w _⟩;refine ju fun j hj=>?_
 rw[World.cell?_alloc_at _ _ _ _ rfl];obtain ⟨op,sort,name,num,kids⟩:=x;show (#[Value.int .i64 op,.int .i64 sort,.string name,.string num,.int .i64 kids]:Array Value)[j]? =[Value.int .i64 op,.int .i64 sort,.string name,.string num,.int .i64 kids][j]?;rw[List.getElem?_toArray]
theorem iU (sort:Int) (num:ByteArray) (w:World):Calls prog 37 #[.int .i64 sort,.string num] w (OnePost ⟨3,sort,⟨#[]⟩,num,0⟩ w):=by
 have HO:=hid (OnePost.of ⟨3,sort,⟨#[]⟩,num,0⟩ w)
 go_enter func37,ntmps37
 go_wp2
 go_ret
 exact HO.out
theorem wl (b:Bool) (w:World):Calls prog 50 #[.bool b] w (OnePost ⟨if b then 1 else 2,0,⟨#[]⟩,⟨#[]⟩,0⟩ w):=by
 cases b
 · have HO:=hid (OnePost.of ⟨2,0,⟨#[]⟩,⟨#[]⟩,0⟩ w)
   go_enter func50,ntmps50
   go_wp2
   go_ret
   exact HO.out
 · have HO:=hid (OnePost.of ⟨1,0,⟨#[]⟩,⟨#[]⟩,0⟩ w)
   go_enter func50,ntmps50
   go_wp2
   go_ret
   exact HO.out
def rZ (w:World) (x:Nd) (L:List (List Nd)) (e:Ending) (w':World):Prop:=
 ∃g c,e=.returned (.slice (some ⟨g,0,none⟩) (1+L.flatten.length) (1+L.flatten.length+c))∧NodesAt w' g ({ x with kids:=L.length }::L.flatten)∧g<w'.heap.size∧w.heap.size≤g∧Below w.heap.size w w'
theorem zX {w:World} {b g n cap z:Nat} {t:TypeId} {xs:List Value} (h:w.ownsRow b t z (.slice (some ⟨g,0,none⟩) n cap) n xs):n≤cap:=by
 obtain ⟨_,h | ⟨_,_,_,hv,_,_,hle,_⟩⟩:=h
 · cases h.1
 · injection hv with _ _ e3;omega
theorem m5 (x:Nd) (ak:Option Addr) (gk ck:Nat) (L:List (List Nd)) (w:World) (hk:Kds w ak gk L) (hs:L.flatten.length≤1000000) (hmx:L.length≤1000000):
    Calls prog 36 #[x.val,.slice ak L.length ck] w (rZ w x L):=by
 obtain ⟨i0,hi,hz0,hz1,hz2⟩:=info_parts lV;obtain ⟨op,sort,name,num,kids⟩:=x;have HK:=hid hk
 have hmono:∀j,(L.take j).flatten.length≤L.flatten.length:=fun j=>by
  have:=congrArg List.length (congrArg List.flatten (List.take_append_drop j L));rw[List.flatten_append,aE] at this;omega
 have HMO:=hid hmono;obtain ⟨j,hm⟩:∃j,L.length=j:=⟨_,rfl⟩
 have HL:=hid hm;unfold Nd.val;rw[hm];rw[hm] at hmx;have HN2:Hid (NDB w.heap.size w ⟨op,sort,name,num,kids⟩ j (w.alloc (.cells #[.int .i64 op,.int .i64 sort,.string name,.string num,.int .i64 j] 57))):=hid ⟨aq w _,aO w _⟩;have HN3:=hid (HN2.out.far (aO (w.alloc (.cells #[.int .i64 op,.int .i64 sort,.string name,.string num,.int .i64 j] 57)) (.cells #[.int .i64 op,.int .i64 sort,.string name,.string num,.int .i64 j] 57)));have hsz:(w.alloc (.cells #[.int .i64 op,.int .i64 sort,.string name,.string num,.int .i64 j] 57)).heap.size=w.heap.size+1:=by simp
 have hown:=World.ownsRow_lit (base:=w.heap.size+1) (e:=57) (size:=5) (w.alloc (.cells #[.int .i64 op,.int .i64 sort,.string name,.string num,.int .i64 j] 57)) #[.int .i64 op,.int .i64 sort,.string name,.string num,.int .i64 j] 1 (by omega) (by decide) rfl;rw[hsz] at hown;have HR3:Hid (((w.alloc (.cells #[.int .i64 op,.int .i64 sort,.string name,.string num,.int .i64 j] 57)).alloc (.cells #[.int .i64 op,.int .i64 sort,.string name,.string num,.int .i64 j] 57)).ownsRow (w.heap.size+1) 57 5 (.slice (some ⟨w.heap.size+1,0,none⟩) 1 1) 1 (cz [⟨op,sort,name,num,(j:Int)⟩])):=hid hown;have hSS1:w.heap.size<w.heap.size+1:=by omega
 clear hk hm hmono hown hsz HN2
 go_enter func36,ntmps36
 go_wp2
 go_loopw [5,6] (fun v i wr=>∃(k B c:Nat),k≤j∧i=.int .i64 k∧v=.slice (some ⟨B,0,none⟩) (1+(L.take k).flatten.length) c∧w.heap.size<B∧NDB w.heap.size w ⟨op,sort,name,num,kids⟩ j wr∧wr.ownsRow (w.heap.size+1) 57 5 v (1+(L.take k).flatten.length) (cz (⟨op,sort,name,num,(j:Int)⟩::(L.take k).flatten))) (fun _ i _=>j-(intOf i).toNat)
 case atStart=>exact ⟨0,_,1,aM _,rfl,rfl,hSS1,HN3.out,HR3.out⟩
 case round=>
  clear HN3 HR3 hSS1;obtain ⟨k,B,c,hk,rfl,rfl,hSB,hnd,hrow⟩:=hrel;generalize hSS:w.heap.size=S at *;have HS:=hid hSS;have HN4:=hid hnd;have HR4:=hid hrow;clear hnd hrow hSS;have hk0:(0:Int)≤(k:Int):=by omega
  by_cases hlt2:k<j
  · have hlt3:(k:Int)<(j:Int):=by omega
    have hl:k<L.length:=by rw[HL.out];exact hlt2
    obtain rfl:=HK.out.1 (by omega);have hKK:=HK.out.far (show Below w.heap.size w wr by rw[HS.out];exact HN4.out.bel);obtain ⟨g,c1,cc,hN,hgl⟩:=hKK.2.2 k L[k] (ay hl);have hnx:1+(L.take (k+1)).flatten.length=(1+(L.take k).flatten.length)+L[k].length:=by rw[nL hl,aE];omega
    have hnf:cz (⟨op,sort,name,num,(j:Int)⟩::(L.take (k+1)).flatten)=cz (⟨op,sort,name,num,(j:Int)⟩::(L.take k).flatten)++cz L[k]:=by rw[nL hl,←List.cons_append,iW]
    have hle:=HMO.out (k+1);have h1:1+(L.take k).flatten.length+L[k].length≤1000001:=by omega
    have HNF:=hid hnf;have HNX:=hid hnx;have HNN:=hid (r7 hN);have HFL:Hid ((cz L[k]).length=L[k].length*5):=hid (vf _);have HON:=hid (oK L[k]);have hSw:=ar HN4.out.bx;have hs1:1≤1+(L.take k).flatten.length:=by omega
    clear hle hnx hnf hN;generalize cz (⟨op,sort,name,num,(j:Int)⟩::(L.take k).flatten)=fl0 at *;generalize cz L[k]=fl1 at *;generalize 1+(L.take k).flatten.length=s0 at *;generalize L[k].length=ln at *
    go_wp2_with (at_builtin;go_loud (refine wpList_append_own _ rfl _ _ 45 rfl (S+1) 57 i0 _ 5 56 underlying45 hi hz0 hz1 hz2 rfl (by decide) (.slice (some ⟨B,0,none⟩) s0 c) s0 fl0 rfl HR4.out ⟨g,0,none⟩ ln c1 fl1 rfl HFL.out (fun q u hq=>by rw[Ap];exact HNN.out q u hq) HON.out (by unfold maxLen;omega) (by omega) (by omega) ?_))
    intro v' w4 hrow hg hnil0
    obtain ⟨B',c',hv',hB'⟩:∃B' c',v'=.slice (some ⟨B',0,none⟩) (s0+ln) c'∧S<B':=by
     obtain ⟨_,h1 | ⟨g,cap,cur,hv,_⟩⟩:=id hrow
     · exact absurd h1.2 (by omega)
     · exact ⟨g,cap,hv,by have:=(hrow.lt g (by rw[hv];rfl)).1;omega⟩
    subst hv';have HN5:=hid (HN4.out.grow hg (fun k e=>by have e':B=k:=aI e;omega));have HR5:=hid hrow;clear hrow hg HR4 HN4 cc
    go_wp2_with fail
    go_roundw
    case rel=>exact ⟨k+1,B',c',by omega,by go_num,by rw[HNX.out],hB',HN5.out,by rw[HNX.out,HNF.out];exact HR5.out⟩
    case measure=>simp[intOf];omega
  · obtain rfl:k=j:=by omega
    have hall:(L.take k).flatten=L.flatten:=by rw[aT (by rw[HL.out];omega)]
    rw[hall] at HR4 ⊢
    have HFIN:Hid (rZ w ⟨op,sort,name,num,kids⟩ L (.returned (.slice (some ⟨B,0,none⟩) (1+L.flatten.length) c)) wr):=hid (by
     have hrow:=HR4.out;obtain ⟨c',hc'⟩:∃c',c=1+L.flatten.length+c':=⟨c-(1+L.flatten.length),by have:=zX hrow;omega⟩
     refine ⟨B,c',by rw[←hc'],ju (fun q hq=>?_),(hrow.lt B rfl).2,by rw[HS.out];omega,by rw[HS.out];exact HN4.out.bel⟩;have hq':q<(1+L.flatten.length)*5:=by simp only[aw] at hq;omega
     rw[hrow.cellAt q hq'];show (cz (⟨op,sort,name,num,(k:Int)⟩::L.flatten))[q]? =(cz (⟨op,sort,name,num,(L.length:Int)⟩::L.flatten))[q]?
     rw[HL.out])
    clear HR4 HN4
    go_wp2
    go_ret
    exact HFIN.out
end Go.Proofs.YtpkfnnkbfphfbaaGreatDoor.Se

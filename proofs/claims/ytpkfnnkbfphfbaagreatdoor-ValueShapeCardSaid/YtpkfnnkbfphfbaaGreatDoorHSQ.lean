import Derived.Test.YtpkfnnkbfphfbaaGreatDoorHAA
import Derived.Test.YtpkfnnkbfphfbaaGreatDoorHShelf
import Derived.Test.YtpkfnnkbfphfbaaGreatDoorRows
import Derived.WalkSpells
import Derived.WalkLawsBesides
import Derived.BigQuiet
import Derived.Shelf.Strings.SlTrimAscii
import Derived.StillTailTactics
import Derived.Deep.RegionHeld3
import Derived.Deep.AppendLies
set_option maxRecDepth 100000
set_option maxHeartbeats 40000000
namespace Sx
end Sx
namespace Go.Proofs.YtpkfnnkbfphfbaaGreatDoor.Se
open Go.RowKit Go.Proofs.Tryz
theorem ret_int {k:IntKind} {a b:Int} (h:a=b):Ending.returned (.int k a)=.returned (.int k b):=by rw[h]
theorem ret_bool {a b:Bool} (h:a=b):Ending.returned (.bool a)=.returned (.bool b):=by rw[h]
theorem rD (s:ByteArray):s.data.toList.length=s.size:=by rw[Array.length_toList];rfl
theorem rE {w:World} {base:Nat} {e:TypeId} {size:Nat} {v:Value} {n:Nat} {xs:List Value} (h:w.ownsRow base e size v n xs) {g:Nat} (hg:v.ownBlock=some g):∃cur,w.heap[g]? =some (.cells cur e (0,0)):=by
 obtain ⟨_,h | ⟨g',cap,cur,hv,_,hh,_⟩⟩:=h
 · rw[h.1] at hg;cases hg
 · rw[hv] at hg;cases hg;exact ⟨cur,hh⟩
theorem bP {w:World} {base:Nat} {e:TypeId} {size:Nat} {v:Value} {n:Nat} {xs:List Value} (h:w.ownsRow base e size v n xs) (hn:0<n):∃g cap,v=.slice (some ⟨g,0,none⟩) n cap∧base≤g∧n≤cap∧cap≤maxLen:=by
 obtain ⟨_,h | ⟨g,cap,cur,hv,hb,hh,hn,hc,_⟩⟩:=h
 · omega
 · exact ⟨g,cap,hv,hb,hn,hc⟩
theorem cR {w:World} {base:Nat} {e:TypeId} {size:Nat} {v:Value} {n:Nat} {xs:List Value} (h:w.ownsRow base e size v n xs):∃a cap,v=.slice a n cap:=by
 obtain ⟨_,h | ⟨g,cap,cur,hv,hb,hh,hn,hc,_⟩⟩:=h
 · exact ⟨none,0,by rw[h.1,h.2]⟩
 · exact ⟨_,_,hv⟩
theorem infoInt:(prog.info? 3).map (fun i=>(i.zero,i.size,i.bytes))=some (some (.int .i64 0),1,8):=by kernel_rfl
theorem lA:(prog.info? 120).map (·.size)=some 2:=by kernel_rfl
theorem rF:liesAt prog prog.depth 120 (2 / prog.cellsOf 120) 0 120 1=true:=by kernel_rfl
theorem mT:(prog.info? 5).map (fun i=>(i.zero,i.size,i.bytes))=some (some (.int .u8 0),1,1):=by kernel_rfl
theorem ii (b:Nat) (w:World) (h0:w.cell? ⟨b,0,none⟩=some (.pointer none)) (hsh:w.shape? b=some (120,2)) (hfz:w.frozen? ⟨b,0,none⟩=false):
    Calls prog 165 #[.pointer (some ⟨b,0,none⟩)] w fun e w'=>e=.returned (.tuple #[])∧w'=w.setCell ⟨b,0,none⟩ (.pointer (some ⟨b,0,none⟩)):=by
 obtain ⟨j,hj,hjs⟩:=Option.map_eq_some_iff.1 lA
 go_enter func165,ntmps165
 go_wp2
 rw[Lib.run_to_unsafe w ⟨b,0,none⟩ underlying118 underlying214 hj (by rw[hjs];decide) hsh (Nat.zero_lt_succ 1)];simp only[Result.andThen];rw[Oper.upon_value]
 go_wp2
 rw[run_callFunc_extern func200 (by kernel_rfl) (by kernel_rfl) (by kernel_rfl) (e:=Extern.AbiNoEscape.same) (by kernel_rfl)];rw[Lib.run_noEscape];simp only[Result.andThen];rw[Oper.upon_value]
 go_wp2
 rw[Lib.run_from_unsafe w ⟨b,0,none⟩ underlying214 underlying118 hj hsh rF];simp only[Result.andThen];rw[Oper.upon_value]
 go_wp2
 go_end0
 exact ⟨rfl,rfl⟩
theorem iJ (b:Nat) (w:World) (h0:w.cell? ⟨b,0,none⟩=some (.pointer (some ⟨b,0,none⟩))):
    Calls prog 165 #[.pointer (some ⟨b,0,none⟩)] w fun e w'=>e=.returned (.tuple #[])∧w'=w:=by
 obtain ⟨j,hj,_⟩:=Option.map_eq_some_iff.1 lA
 go_enter func165,ntmps165
 go_wp2
 rw[Lib.run_neq_ptr_same w _ underlying118 hj]
 go_wp2
 go_end0
 exact ⟨rfl,rfl⟩
theorem nE (B b:Nat) (bs:List Value) (w:World) (h:Lib.IsBuilder 120 5 B b bs w):
    Calls prog 165 #[.pointer (some ⟨b,0,none⟩)] w fun e w'=>e=.returned (.tuple #[])∧Lib.BuilderAt 120 5 B b (.pointer (some ⟨b,0,none⟩)) bs w'∧Below B w w':=by
 rcases h with h | h
 · refine (ii b w h.cell0 h.shape h.frozen0).mono ?_;rintro e w' ⟨rfl,rfl⟩;exact ⟨rfl,h.used _,(am B w).setCell (p:=⟨b,0,none⟩) h.1 _⟩
 · refine (iJ b w h.cell0).mono ?_;rintro e w' ⟨rfl,rfl⟩;exact ⟨rfl,h,am B _⟩
theorem iK (w:World):Lib.IsBuilder 120 5 w.heap.size w.heap.size (Lib.byteCells []) (w.alloc (.cells #[.pointer none,.slice none 0 0] 120)):=
 .inl ⟨aj _,.slice none 0 0,by show (w.heap.push _)[w.heap.size]? =_;simp,World.ownsRow_nil _ _ _ _,by simp[Value.ownBlock]⟩
theorem gV {w:World} {b b':Nat} {e:TypeId} {z:Nat} {v:Value} {n:Nat} {xs:List Value} (h:w.ownsRow b e z v n xs) (hb:b'≤b):w.ownsRow b' e z v n xs:=by
 obtain ⟨hl,h0 | ⟨g,cap,cur,hv,hg,r⟩⟩:=h
 · exact ⟨hl,.inl h0⟩
 · exact ⟨hl,.inr ⟨g,cap,cur,hv,by omega,r⟩⟩
def cO (n base:Nat) (E:List Nat):Nat→Nat→Option Nat
 | 0,e=>some e
 | k+1,e=>if n≤e then none else cO n base E k (E.getD (e-base) 0)
def cy (n:Nat):List Int→Option (List Nat)
 | []=>some []
 | k::ks=>match cy n ks with
   | none=>none
   | some E=>if k<0∨(n:Int)<k then none else
     match cO n (n-ks.length) E k.toNat (n-ks.length) with
     | none=>none
     | some e=>some (e::E)
theorem kZ (n base:Nat) (E:List Nat) (hE:∀t (h:t<E.length),base+t<E[t]∧E[t]≤n) (hl:base+E.length=n):∀(k e e':Nat),base≤e→e≤n→cO n base E k e=some e'→e≤e'∧e'≤n:=by
 intro k
 induction k with
 | zero=>intro e e' h1 h2 h;simp only[cO] at h;cases h;exact ⟨aj _,h2⟩
 | succ k ih=>
   intro e e' h1 h2 h;simp only[cO] at h
   split at h
   · cases h
   · have hlt:e-base<E.length:=by omega
     rw[aA,ay hlt,Option.getD_some] at h;have hb:=hE (e-base) hlt;have:=ih _ e' (by omega) hb.2 h
     omega
theorem rG (n:Nat):∀(ks:List Int) (E:List Nat),ks.length≤n→cy n ks=some E→E.length=ks.length∧∀t (h:t<E.length),n-ks.length+t<E[t]∧E[t]≤n:=by
 intro ks
 induction ks with
 | nil=>intro E _ h;simp only[cy] at h;cases h;exact ⟨rfl,by intro t h;simp at h⟩
 | cons k ks ih=>
   intro E hl h;simp only[aw] at hl;simp only[cy] at h;cases e:cy n ks with
   | none=>rw[e] at h;cases h
   | some E'=>
     rw[e] at h;obtain ⟨h1,h2⟩:=ih E' (by omega) e;simp only at h
     split at h
     · cases h
     · cases e2:cO n (n-ks.length) E' k.toNat (n-ks.length) with
       | none=>rw[e2] at h;cases h
       | some x=>
         rw[e2] at h;cases h;have hb:=kZ n (n-ks.length) E' h2 (by omega) k.toNat (n-ks.length) x (aj _) (by omega) e2;refine ⟨by simp[h1],?_⟩;intro t ht;cases t with
         | zero=>simp only[aw,List.getElem_cons_zero];omega
         | succ t=>
           simp only[aw,List.getElem_cons_succ];have:=h2 t (by simp at ht;omega)
           omega
def lc (j:Nat) (E:List Nat):List Value:=List.replicate j (.int .i64 0)++E.map fun n:Nat=>Value.int .i64 n
theorem yl (j e:Nat) (E:List Nat):(lc (j+1) E).set j (.int .i64 e)=lc j (e::E):=by
 unfold lc;rw[List.replicate_succ',List.append_assoc,List.set_append_right _ _ (by simp)]
 simp
theorem ym (j t:Nat) (E:List Nat) (h:t<E.length):(lc j E)[j+t]? =some (.int .i64 E[t]):=by
 unfold lc;rw[List.getElem?_append_right (by simp)]
 simp[h]
def EndsPost (w:World) (n:Nat) (ks:List Int) (e:Ending) (w':World):Prop:=
 Below w.heap.size w w'∧match cy n ks with
  | some E=>∃v,e=.returned (.tuple #[v,.bool true])∧w'.ownsRow w.heap.size 3 1 v n (E.map fun n:Nat=>Value.int .i64 n)
  | none=>e=.returned (.tuple #[.slice none 0 0,.bool false])
theorem EndsPost.none_of {w w':World} {n:Nat} {ks:List Int} (hb:Below w.heap.size w w') (h:cy n ks=none):EndsPost w n ks (.returned (.tuple #[.slice none 0 0,.bool false])) w':=by
 unfold EndsPost;rw[h];exact ⟨hb,rfl⟩
theorem EndsPost.some_of {w w':World} {n:Nat} {ks:List Int} {E:List Nat} {v:Value} (hb:Below w.heap.size w w') (h:cy n ks=some E) (ho:w'.ownsRow w.heap.size 3 1 v n (E.map fun n:Nat=>Value.int .i64 n)):EndsPost w n ks (.returned (.tuple #[v,.bool true])) w':=by
 unfold EndsPost;rw[h];exact ⟨hb,v,rfl,ho⟩
theorem mU (n:Nat) (ks:List Int):∀j,cy n (ks.drop j)=none→cy n ks=none:=by
 intro j
 induction j generalizing ks with
 | zero=>intro h;rwa [List.drop_zero] at h
 | succ j ih=>
   intro h;cases ks with
   | nil=>simpa using h
   | cons a r=>
     rw[List.drop_succ_cons] at h;have:=ih r h;simp only[cy];rw[this]
theorem oF (n:Nat):(madeCells (Value.cells (.int .i64 0)) (n*1)).toList=lc n []:=by
 unfold lc;rw[List.map_nil,List.append_nil,List.eq_replicate_iff];refine ⟨by simp[madeCells],fun x hx=>?_⟩;simp only[madeCells,Value.cells,Array.toList_map,List.mem_map] at hx;obtain ⟨a,_,rfl⟩:=hx
 simp[Nat.mod_one]
end Go.Proofs.YtpkfnnkbfphfbaaGreatDoor.Se

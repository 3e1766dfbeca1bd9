import Derived.Below
section
open Go Go.RowKit
theorem ac:∀{α:Type _} (l:List α) (i:Nat) (a:α),l.toArray.setIfInBounds i a=(l.set i a).toArray:=@List.setIfInBounds_toArray
theorem ag:∀{α:Type _} {x:α} {xs:List α} {a:α},(x::xs).set 0 a=a::xs:=@List.set_cons_zero
theorem ah:∀{α:Type _} {x:α} {xs:List α} {i:Nat} {a:α},(x::xs).set (i+1) a=x::xs.set i a:=@List.set_cons_succ
theorem aj:∀n:Nat,n≤n:=@Nat.le_refl
theorem aC:∀{n m k:Nat},n<m→m≤k→n<k:=@Nat.lt_of_lt_of_le
theorem aP:∀{n m k:Nat},n≤m→m≤k→n≤k:=@Nat.le_trans
theorem aL:∀{n m:Nat},n<m→n≤m:=@Nat.le_of_lt
theorem aM:∀n:Nat,0≤n:=@Nat.zero_le
theorem ay:∀{α:Type _} {l:List α} {i:Nat} (h:i<l.length),l[i]? =some l[i]:=@List.getElem?_eq_getElem
theorem aw:∀{α:Type _} {a:α} {l:List α},(a::l).length=l.length+1:=@List.length_cons
theorem aA:∀{α:Type _} {l:List α} {i:Nat} {a:α},l.getD i a=l[i]?.getD a:=@List.getD_eq_getElem?_getD
theorem aE:∀{α:Type _} {l k:List α},(l++k).length=l.length+k.length:=@List.length_append
theorem aN:∀{α:Type _},([]:List α).length=0:=@List.length_nil
theorem aS:∀{α:Type _} {a:α},[a].length=1:=@List.length_singleton
theorem aT:∀{α:Type _} {i:Nat} {l:List α},l.length≤i→l.take i=l:=@List.take_of_length_le
theorem aQ:∀{α:Type _} {l:List α} {i:Nat} {a:α},(l.set i a).length=l.length:=@List.length_set
theorem aI:∀{α:Type _} {a b:α},some a=some b→a=b:=@Option.some.inj
theorem aq:∀(w:World) (o:Obj),(w.alloc o).heap[w.heap.size]? =some o:=@heap_alloc_new
theorem aD:∀{p:Prop} [Decidable p],¬p→decide p=false:=@decide_eq_false
theorem aH:∀{p:Prop} [Decidable p],p→decide p=true:=@decide_eq_true
theorem aB:∀{c:Prop} {_:Decidable c},¬c→∀{α:Sort _} {t e:α},(if c then t else e)=e:=@if_neg
theorem aF:∀{c:Prop} {_:Decidable c},c→∀{α:Sort _} {t e:α},(if c then t else e)=t:=@if_pos
theorem am:∀(B:Nat) (w:World),Below B w w:=@Below.refl
theorem aG:∀(w:World) (a:Addr) (u:Value) (k:Nat) (_:k≠a.block),(w.setCell a u).heap[k]? =w.heap[k]? :=@Below.heap_setCell
end

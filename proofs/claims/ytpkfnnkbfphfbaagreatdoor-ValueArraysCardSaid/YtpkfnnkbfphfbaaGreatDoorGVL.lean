/- (*reader).list: the row of the operands' terms. -/
import Derived.Test.YtpkfnnkbfphfbaaGreatDoorGEB
import Derived.Test.YtpkfnnkbfphfbaaGreatDoorGShelf
set_option maxRecDepth 100000
set_option maxHeartbeats 40000000
namespace Go.Proofs.YtpkfnnkbfphfbaaGreatDoor.Se
open Go.RowKit Nmx

end Go.Proofs.YtpkfnnkbfphfbaaGreatDoor.Se
/- (*reader).list at an operator. -/
namespace Go.Proofs.YtpkfnnkbfphfbaaGreatDoor.Se
open Go.RowKit Nmx
end Go.Proofs.YtpkfnnkbfphfbaaGreatDoor.Se
/- (*reader).declare at variables alone. -/
namespace Go.Proofs.YtpkfnnkbfphfbaaGreatDoor.Se
open Go.RowKit Nmx
theorem grown_trans {w w1 w2:World} {V:Nat} (h1:w.grownBy w1 (some V)) (h2:w1.grownBy w2 (some V)):w.grownBy w2 (some V):=
  ⟨h2.os.trans h1.os,h2.tape.trans h1.tape,h2.output.trans h1.output,Nat.le_trans h1.size h2.size,fun k hk hne=>(h2.block k (Nat.lt_of_lt_of_le hk h1.size) hne).trans (h1.block k hk hne)⟩
end Go.Proofs.YtpkfnnkbfphfbaaGreatDoor.Se
/- Clone of a term. -/
namespace Go.Proofs.YtpkfnnkbfphfbaaGreatDoor.Se
open Go.RowKit Nmx
end Go.Proofs.YtpkfnnkbfphfbaaGreatDoor.Se
/- Read at item 0, with variables alone. -/
namespace Go.Proofs.YtpkfnnkbfphfbaaGreatDoor.Se
open Go.RowKit Nmx


end Go.Proofs.YtpkfnnkbfphfbaaGreatDoor.Se
/- The two texts of the sanity check, as items. -/
namespace Go.Proofs.YtpkfnnkbfphfbaaGreatDoor.Se
open Go.RowKit Nmx
end Go.Proofs.YtpkfnnkbfphfbaaGreatDoor.Se
/- Parse with variables alone. -/
namespace Go.Proofs.YtpkfnnkbfphfbaaGreatDoor.Se
open Go.RowKit Nmx

end Go.Proofs.YtpkfnnkbfphfbaaGreatDoor.Se
/- The readings of the sanity check. -/
namespace Go.Proofs.YtpkfnnkbfphfbaaGreatDoor.Se
open Go.RowKit Nmx
end Go.Proofs.YtpkfnnkbfphfbaaGreatDoor.Se
/- read hands on a failure; the two readings. -/
namespace Go.Proofs.YtpkfnnkbfphfbaaGreatDoor.Se
open Go.RowKit Nmx
end Go.Proofs.YtpkfnnkbfphfbaaGreatDoor.Se
/- WriteString; Format of a number. -/
namespace Go.Proofs.YtpkfnnkbfphfbaaGreatDoor.Se
open Go.RowKit Nmx
section
theorem builder_below {B b:Nat} {bs:List Value} {w w':World} (h:Lib.IsBuilder 120 5 B b bs w) (hb:Below w.heap.size w w'):Lib.IsBuilder 120 5 B b bs w':=by
  have key:∀p,Lib.BuilderAt 120 5 B b p bs w→Lib.BuilderAt 120 5 B b p bs w':=by
    rintro p ⟨h1,u,h2,h3,h4⟩
    exact ⟨h1,u,(hb.block b (Array.getElem?_eq_some_iff.1 h2).1).trans h2,ownsRow_below h3 hb (fun g hg=>(h3.lt g hg).2),h4⟩
  exact h.elim (fun x=>.inl (key _ x)) (fun x=>.inr (key _ x))
theorem builder_lt {B b:Nat} {bs:List Value} {w:World} (h:Lib.IsBuilder 120 5 B b bs w):B≤b∧b<w.heap.size:=by
  rcases h with ⟨h1,u,h2,-⟩ | ⟨h1,u,h2,-⟩
  · exact ⟨h1,(Array.getElem?_eq_some_iff.1 h2).1⟩
  · exact ⟨h1,(Array.getElem?_eq_some_iff.1 h2).1⟩
end
end Go.Proofs.YtpkfnnkbfphfbaaGreatDoor.Se
/- check without functions; Format of a number; the sanity check. -/
namespace Go.Proofs.YtpkfnnkbfphfbaaGreatDoor.Se
open Go.RowKit Nmx
section
theorem chk_vars (g cap:Nat) (ts:List Nd) (w:World) (hl:ts.length≤20000) (hg:g<w.heap.size) (hc:NodesAt w g ts) (hsm:∀x∈ts,x.num.size≤1000) (hEn:Env w) (hno:∀x∈ts,¬x.op=5):
    Calls Tryz.prog 75 #[.slice (some ⟨g,0,none⟩) ts.length cap] w (ChkPost (naF ts) ts w):=
  chk_any (naF ts) (some ⟨g,0,none⟩) g cap ts w (fun _=>rfl) hg hc hsm hEn fun W E Ss ge gs ce cs hN hgW _ _ _ _ _ _=>namesAgree_vars (some ⟨g,0,none⟩) (some ⟨ge,0,none⟩) (some ⟨gs,0,none⟩) g cap ts.length ce ts.length cs ts E Ss W (fun _=>rfl) hgW hN hl hno
end
end Go.Proofs.YtpkfnnkbfphfbaaGreatDoor.Se

import Derived.Test.YtpkfnnkbfphfbaaGreatDoorHFD
import Derived.Test.YtpkfnnkbfphfbaaGreatDoorHEU
namespace Go.Proofs.YtpkfnnkbfphfbaaGreatDoor.Se
open Go.RowKit Nmx
theorem yO {w:World} {ao:Option Addr} {len cap:Nat} (h:ArgI w ao len cap):Ch w.heap.size ao (min len 400) cap (w.alloc (.cells #[.slice ao (min len 400) cap,.int .i64 0] 60)):=by
 refine ⟨⟨0,aM _,aq w _⟩,by omega,fun hn=>?_⟩;obtain ⟨b,off,e,hb,hx⟩:=h.rd (by have:=h.le;omega);refine ⟨b,off,e,hb,fun t ht=>?_⟩;obtain ⟨x,hx⟩:=hx t (by omega);exact ⟨x,(World.cell?_alloc_past _ _ _ hb).trans hx⟩
theorem ArgI.belowV {w w':World} {ao:Option Addr} {len cap:Nat} (h:ArgI w ao len cap) (hb:Below w.heap.size w w'):ArgI w' ao len cap:=
 ⟨h.le,h.most,fun ha=>let ⟨b,off,e,hl,hx⟩:=h.rd ha;⟨b,off,e,aC hl hb.size,fun t ht=>let ⟨x,hx⟩:=hx t ht;⟨x,(hb.cell (p:=⟨b,off+t,.none⟩) hl).trans hx⟩⟩⟩
end Go.Proofs.YtpkfnnkbfphfbaaGreatDoor.Se

/- A charge while the document's parser (poundageref07) makes it: its block, its result's, its rows. -/
import Derived.Test.YtofbobdhkbmbgaaGreatDoorJRef7d
import Derived.Test.YtofbobdhkbmbgaaGreatDoorJDatB
import Derived.Test.YtofbobdhkbmbgaaGreatDoorJPureS
import Derived.OneCell
import Derived.Maps.AppendAt
import Derived.Deep.AppendLies
import Derived.Deep.RegionHeldLaw
namespace Go.Proofs.YtofbobdhkbmbgaaGreatDoor.R7
open Go.RowKit Go.Sort P Tl Mm
section
variable {w0 W W':World} {b tb cap:Nat} {ts:List Tok} {kr kc base:Nat} {s s':St} {c c':Charge} {ta:Option Addr} {tc:Nat} {aa:Option Addr} {ac:Nat}
end
section
variable {w0 W W':World} {b tb cap:Nat} {ts:List Tok} {kr kc base:Nat} {s:St} {c:Charge} {ta:Option Addr} {tc:Nat} {aa:Option Addr} {ac:Nat}
end
theorem news_at (w:World) (cs:List Value) (t:TypeId):∀j u,cs[j]?=some u→(w.alloc (.cells cs.toArray t)).cell? ((⟨w.heap.size,0,none⟩:Addr).add j)=some u:=fun j u h=>by
 rw [add_plain,Nat.zero_add]
 exact (Bx.new w cs t).cell j u h
end Go.Proofs.YtofbobdhkbmbgaaGreatDoor.R7

/- The shortest text of a number with a point, as plain arithmetic: no program is named here. -/
import Derived.Test.YtnfehoikofiocaaJDatP
import Derived.Lib.ItoaLen
import Derived.WalkSmall
import Derived.WalkKit
import Derived.BigQuiet
import Derived.Lib.QuietBelow
namespace Go.Proofs.Ytnfehoikofiocaa
namespace P
open Go.RowKit
def fs (n:Nat):Nat→List UInt8
 | 0=>[]
 | k+1=>if fs n k≠[]∨n / 10 ^ k % 10≠0 then dch (n / 10 ^ k % 10)::fs n k else []
theorem bel_drewN {B:Nat} {a w:World} (h:Below B a w) (n:Nat):Below B a (w.drewN n):=⟨h.os,h.tape,h.output,h.size,h.block⟩
end P
end Go.Proofs.Ytnfehoikofiocaa

/- What the walks of layers 3 and later share: answers, boxes, strings. No function of the program is named here. -/
import Derived.Test.YtnfehoikofiocaaJDatP
import Derived.WalkSmall
import Derived.WalkKit
import Derived.BigQuiet
import Derived.Lib.QuietBelow
namespace Go.Proofs.Ytnfehoikofiocaa
namespace P
open Go.RowKit
theorem bel_drewN {B:Nat} {a w:World} (h:Below B a w) (n:Nat):Below B a (w.drewN n):=⟨h.os,h.tape,h.output,h.size,h.block⟩
end P
end Go.Proofs.Ytnfehoikofiocaa

/- What the walks of layers 3 and later share: answers, boxes, strings. No function of the program is named here. -/
import Derived.Test.YtemjmdfmcblgnaaJPureL
import Derived.WalkSmall
import Derived.WalkKit
import Derived.BigQuiet
import Derived.Lib.QuietBelow
namespace Go.Proofs.Ytemjmdfmcblgnaa.P
open Go.RowKit
theorem bel_drewN {B : Nat} {a w : World} (h : Below B a w) (n : Nat) : Below B a (w.drewN n) := ⟨h.os, h.tape, h.output, h.size, h.block⟩
theorem vi {a b : Int} (h : a = b) : Value.int .i64 a = Value.int .i64 b := by rw [h]
end Go.Proofs.Ytemjmdfmcblgnaa.P

/- What the document's answers for layer 6 (poundageref06) come to: Same. -/
import Derived.Test.YtemjmdfmcblgnaaJRef6f
namespace Go.Proofs.Ytemjmdfmcblgnaa.P
end Go.Proofs.Ytemjmdfmcblgnaa.P
namespace Go.Proofs.Ytemjmdfmcblgnaa.Mm
end Go.Proofs.Ytemjmdfmcblgnaa.Mm
namespace Go.Proofs.Ytemjmdfmcblgnaa.Tl
end Go.Proofs.Ytemjmdfmcblgnaa.Tl
namespace Go.Proofs.Ytemjmdfmcblgnaa.R6
open Go.RowKit Go.Sort P Mm Tl
/-- What is played: rows that aren't great. -/
structure Small (p : Plan) : Prop where
  meters : p.meters.length ≤ 20000
  fees : p.fees.length ≤ 20000
  charges : p.charges.length ≤ 20000
  parts : ∀ c ∈ p.charges, c.tiers.length ≤ 20000 ∧ c.adjusts.length ≤ 20000
end Go.Proofs.Ytemjmdfmcblgnaa.R6

/- What the document's answers for layer 6 (poundageref06) come to: Same. -/
import Derived.Test.YtghhnimimccpoaaJRef6f
namespace Go.Proofs.Ytghhnimimccpoaa.P
end Go.Proofs.Ytghhnimimccpoaa.P
namespace Go.Proofs.Ytghhnimimccpoaa.Mm
end Go.Proofs.Ytghhnimimccpoaa.Mm
namespace Go.Proofs.Ytghhnimimccpoaa.Tl
end Go.Proofs.Ytghhnimimccpoaa.Tl
namespace Go.Proofs.Ytghhnimimccpoaa.R6
open Go.RowKit Go.Sort P Mm Tl
/-- What is played: rows that aren't great. -/
structure Small (p : Plan) : Prop where
  meters : p.meters.length ≤ 20000
  fees : p.fees.length ≤ 20000
  charges : p.charges.length ≤ 20000
  parts : ∀ c ∈ p.charges, c.tiers.length ≤ 20000 ∧ c.adjusts.length ≤ 20000
end Go.Proofs.Ytghhnimimccpoaa.R6

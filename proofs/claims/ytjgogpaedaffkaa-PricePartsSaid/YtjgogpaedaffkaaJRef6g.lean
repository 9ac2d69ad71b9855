/- What the document's answers for layer 6 (poundageref06) come to: Same. -/
import Derived.Test.YtjgogpaedaffkaaJRef6e
namespace Go.Proofs.Ytjgogpaedaffkaa.P
end Go.Proofs.Ytjgogpaedaffkaa.P
namespace Go.Proofs.Ytjgogpaedaffkaa.Mm
end Go.Proofs.Ytjgogpaedaffkaa.Mm
namespace Go.Proofs.Ytjgogpaedaffkaa.Tl
end Go.Proofs.Ytjgogpaedaffkaa.Tl
namespace Go.Proofs.Ytjgogpaedaffkaa.R6
open Go.RowKit Go.Sort P Mm Tl
/-- What is played: rows that aren't great. -/
structure Small (p : Plan) : Prop where
  meters : p.meters.length ≤ 20000
  fees : p.fees.length ≤ 20000
  charges : p.charges.length ≤ 20000
  parts : ∀ c ∈ p.charges, c.tiers.length ≤ 20000 ∧ c.adjusts.length ≤ 20000
end Go.Proofs.Ytjgogpaedaffkaa.R6

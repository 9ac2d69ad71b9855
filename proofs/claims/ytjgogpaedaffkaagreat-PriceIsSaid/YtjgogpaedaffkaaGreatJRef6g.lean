/- What the document's answers for layer 6 (poundageref06) come to: Same. -/
import Derived.Test.YtjgogpaedaffkaaGreatJRef6e
namespace Go.Proofs.YtjgogpaedaffkaaGreat.P
end Go.Proofs.YtjgogpaedaffkaaGreat.P
namespace Go.Proofs.YtjgogpaedaffkaaGreat.Mm
end Go.Proofs.YtjgogpaedaffkaaGreat.Mm
namespace Go.Proofs.YtjgogpaedaffkaaGreat.Tl
end Go.Proofs.YtjgogpaedaffkaaGreat.Tl
namespace Go.Proofs.YtjgogpaedaffkaaGreat.R6
open Go.RowKit Go.Sort P Mm Tl
/-- What is played: rows that aren't great. -/
structure Small (p : Plan) : Prop where
  meters : p.meters.length ≤ 20000
  fees : p.fees.length ≤ 20000
  charges : p.charges.length ≤ 20000
  parts : ∀ c ∈ p.charges, c.tiers.length ≤ 20000 ∧ c.adjusts.length ≤ 20000
end Go.Proofs.YtjgogpaedaffkaaGreat.R6

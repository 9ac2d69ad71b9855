/- What the document's answers for layer 6 (poundageref06) come to: Same. -/
import Derived.Test.YtjgogpaedaffkaaGreatJRef6e
namespace Go.Proofs.YtjgogpaedaffkaaGreat
namespace P
end P
namespace Mm
end Mm
namespace Tl
end Tl
namespace R6
open Go.RowKit Go.Sort P Mm Tl
structure Small (p:Plan):Prop where
 meters:p.meters.length≤20000
 fees:p.fees.length≤20000
 charges:p.charges.length≤20000
 parts:∀c∈p.charges,c.tiers.length≤20000∧c.adjusts.length≤20000
end R6
end Go.Proofs.YtjgogpaedaffkaaGreat

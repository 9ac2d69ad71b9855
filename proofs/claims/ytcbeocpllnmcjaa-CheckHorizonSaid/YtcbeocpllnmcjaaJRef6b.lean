/- What the document's answers for layer 6 (poundageref06) come to: Places, Ints, Texts. -/
import Derived.Test.YtcbeocpllnmcjaaJRef6
import Derived.Deep.Onto
namespace Go.Proofs.Ytcbeocpllnmcjaa.R6
open Go.RowKit Go.Sort P Mm
def cP (c : Charge) : List Int := [c.line, c.col]
end Go.Proofs.Ytcbeocpllnmcjaa.R6

/- What the document's answers for layer 6 (poundageref06) come to: Places, Ints, Texts. -/
import Derived.Test.YtnhhhnngocdagaaJRef6
import Derived.Deep.Onto
namespace Go.Proofs.Ytnhhhnngocdagaa.R6
open Go.RowKit Go.Sort P Mm
def ints (l : List Int) : List Value := l.flatMap fun x => [.int .i64 x]
theorem ints_app (a b : List Int) : ints (a ++ b) = ints a ++ ints b := by unfold ints; rw [List.flatMap_append]
def cP (c : Charge) : List Int := [c.line, c.col]
theorem info_int : (Try.prog.info? 3).map (fun i => (i.zero, i.size, i.bytes)) = some (some (.int .i64 0), 1, 8) := by kernel_rfl
theorem und_ints : Try.prog.underlying 89 = some (.slice 3) := by kernel_rfl
end Go.Proofs.Ytnhhhnngocdagaa.R6

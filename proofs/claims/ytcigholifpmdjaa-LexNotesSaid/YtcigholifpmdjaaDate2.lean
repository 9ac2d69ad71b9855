/- What package date does: the texts of days. -/
import Derived.Test.YtcigholifpmdjaaDate
import Derived.Lib.AppendIntMem
namespace Go.Proofs.Ytcigholifpmdjaa.Dt
open Go.RowKit Go.Sort P

/-- The library's table of powers of ten stands as the program's text lays it. -/
def Tab (w : World) : Prop := Lib.TabIs Try.prog w "internal/strconv.uint64pow10" .u64 Lib.pow10Tab
theorem Tab.later {w w' : World} (h : Tab w) (b : Below w.heap.size w w') : Tab w' := Lib.tabBelow_of_tabIs h _ b
end Go.Proofs.Ytcigholifpmdjaa.Dt

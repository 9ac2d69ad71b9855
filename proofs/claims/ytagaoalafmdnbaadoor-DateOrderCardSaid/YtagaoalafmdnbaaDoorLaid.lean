/- What the listed tables give the walks: the powers of ten. -/
import Derived.Test.YtagaoalafmdnbaaDoorDate2
import Derived.Lib.LaidTab
import Derived.MakeChecks
import Derived.Stop.LaidErr
namespace Go.Proofs.YtagaoalafmdnbaaDoor.Ld
open Go.RowKit

theorem own : ownKnob Tryd.prog.godebug = none := by kernel_rfl
theorem of_head {W : World} {rest : List (String × DataW Unit)} (h : laidMet Tryd.prog (("internal/strconv.uint64pow10", Lib.tabData .u64 Lib.pow10Tab) :: rest) W) : Dt.Tab W :=
  Lib.tabIs_of_head (g := 0) (t := 80) (e := 67) (n := 20) (by kernel_rfl) (by kernel_rfl) (by kernel_rfl) (by kernel_rfl) (by kernel_rfl) (by kernel_rfl) h
theorem tab_of {W : World} {a b c : String × DataW Unit} (hc : c = ("internal/strconv.uint64pow10", Lib.tabData .u64 Lib.pow10Tab)) (hp : ([a, b, c].all fun x => x.2.handleName?.isNone) = true)
    (h : laidMetH Tryd.prog [a, b, c] W) : Dt.Tab W := by
  rw [MakeChecks.laidMetH_plain _ _ _ hp] at h
  subst hc
  exact of_head h.tail.tail
end Go.Proofs.YtagaoalafmdnbaaDoor.Ld

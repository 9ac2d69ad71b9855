/- What the document's answers for layer 6 (poundageref06) come to: Places, Ints, Texts. -/
import Derived.Test.YtcimcdoiiepjoaaJRef6
import Derived.Deep.Onto
namespace Go.Proofs.Ytcimcdoiiepjoaa
namespace P
end P
namespace Mm
end Mm
namespace R6
open Go.RowKit Go.Sort P Mm
def cP (c:Charge):List Int:=[c.line,c.col]
theorem flat_len {α β:Type} {f:α→List β} {n:Nat} (h:∀x,(f x).length=n):∀l:List α,(l.flatMap f).length=l.length*n
 | []=>by simp
 | x::r=>by rw [List.flatMap_cons,List.length_append,h,flat_len h r,List.length_cons,Nat.succ_mul];omega
end R6
end Go.Proofs.Ytcimcdoiiepjoaa

/- What the document's answers for layer 6 (poundageref06) come to: elements of a plan's rows; Great. -/
import Derived.Test.YtnfehoikofiocaaJDatP
import Derived.Test.YtnfehoikofiocaaJDatB
import Derived.WalkKit
import Derived.ProofKit
namespace Go.Proofs.Ytnfehoikofiocaa
namespace P
end P
namespace Mm
end Mm
namespace R6
open Go.RowKit Go.Sort P Mm
theorem lies0 {w:World} {b o k:Nat} {v:Value} (h:w.cell? ⟨b,o+k+0,none⟩=some v):w.cell? ⟨b,o+k,none⟩=some v:=h
theorem adj_at {w:World} {ao:Option Addr} {len cap:Nat} {xs:List Adj} (h:Row tAdj w ao len cap xs) {j:Nat} {m:Adj} (hj:xs[j]?=some m) :
  ∃b o,ao=some ⟨b,o,none⟩∧b<w.heap.size∧w.cell? ⟨b,o+j*3,none⟩=some (.int .i64 m.kind)∧w.cell? ⟨b,o+j*3+1,none⟩=some (.int .i64 m.num)∧w.cell? ⟨b,o+j*3+2,none⟩=some (.int .i64 m.mode)∧I64 m.kind∧I64 m.num∧I64 m.mode:=by
 obtain ⟨b,o,cs,h1,h2,⟨h3,h5⟩,h4⟩:=h.at hj
 subst h3
 exact ⟨b,o,h1,h2,lies0 (h4 0 _ rfl),h4 1 _ rfl,h4 2 _ rfl,h5⟩
end R6
end Go.Proofs.Ytnfehoikofiocaa

/- What each call of package exact answers, for all numbers of 64 bits: contracts over the walked program. -/
import Derived.Test.YtcigholifpmdjaaRows
import Derived.Test.YtcigholifpmdjaaPure
import Derived.WalkKit
import Derived.ProofKit
import Derived.BigQuiet
import Derived.Deep.QuietTactic
namespace Go.Proofs.Ytcigholifpmdjaa.Ex
open Go.RowKit P

theorem ret_2 {k : IntKind} {a b : Int} {p q : Bool} (h : a = b) (h' : p = q) : Ending.returned (.tuple #[.int k a, .bool p]) = .returned (.tuple #[.int k b, .bool q]) := by rw [h, h']
theorem ret_3 {k l : IntKind} {a b c d : Int} {p q : Bool} (h : a = b) (h1 : c = d) (h' : p = q) : Ending.returned (.tuple #[.int k a, .int l c, .bool p]) = .returned (.tuple #[.int k b, .int l d, .bool q]) := by rw [h, h1, h']

end Go.Proofs.Ytcigholifpmdjaa.Ex

/- What the document's answers for layer 6 (poundageref06) come to: Texts, Ints, Same. -/
import Derived.Test.YtemjmdfmcblgnaaJRef6e
namespace Go.Proofs.Ytemjmdfmcblgnaa.P
end Go.Proofs.Ytemjmdfmcblgnaa.P
namespace Go.Proofs.Ytemjmdfmcblgnaa.Mm
end Go.Proofs.Ytemjmdfmcblgnaa.Mm
namespace Go.Proofs.Ytemjmdfmcblgnaa.Tl
end Go.Proofs.Ytemjmdfmcblgnaa.Tl
namespace Go.Proofs.Ytemjmdfmcblgnaa.R6
open Go.RowKit Go.Sort P Mm Tl
/-- A number, whatever it is. -/
def tI : Ty Int := leaf 1 (fun x => [.int .i64 x]) (fun _ => True) (fun _ => rfl)
theorem int_at {w : World} {ao : Option Addr} {len cap : Nat} {xs : List Int} (h : Row tI w ao len cap xs) {j : Nat} {s : Int} (hj : xs[j]? = some s) : ∃ b o, ao = some ⟨b, o, none⟩ ∧ b < w.heap.size ∧ w.cell? ⟨b, o + j, none⟩ = some (.int .i64 s) := by
  obtain ⟨b, o, cs, h1, h2, ⟨h3, _⟩, h4⟩ := h.at hj
  subst h3
  refine ⟨b, o, h1, h2, ?_⟩
  have := h4 0 _ rfl
  rw [show tI.n = 1 from rfl, Nat.mul_one] at this
  exact this
end Go.Proofs.Ytemjmdfmcblgnaa.R6

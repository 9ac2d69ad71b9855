/- What the document's answers for layer 6 (poundageref06) come to: Texts, Ints, Same. -/
import Derived.Test.YtcbeocpllnmcjaaJRef6e
namespace Go.Proofs.Ytcbeocpllnmcjaa.R6
open Go.RowKit Go.Sort P Mm Tl
/-- A text, of whatever length. -/
def tS : Ty ByteArray := leaf 1 (fun s => [.string s]) (fun _ => True) (fun _ => rfl)
theorem str_at {w : World} {ao : Option Addr} {len cap : Nat} {xs : List ByteArray} (h : Row tS w ao len cap xs) {j : Nat} {s : ByteArray} (hj : xs[j]? = some s) : ∃ b o, ao = some ⟨b, o, none⟩ ∧ b < w.heap.size ∧ w.cell? ⟨b, o + j, none⟩ = some (.string s) := by
  obtain ⟨b, o, cs, h1, h2, ⟨h3, _⟩, h4⟩ := h.at hj
  subst h3
  refine ⟨b, o, h1, h2, ?_⟩
  have := h4 0 _ rfl
  rw [show tS.n = 1 from rfl, Nat.mul_one] at this
  exact this
end Go.Proofs.Ytcbeocpllnmcjaa.R6

/- What the document's answers for layer 6 (poundageref06) come to: Texts, Ints, Same. -/
import Derived.Test.YtghhnimimccpoaaJRef6e
namespace Go.Proofs.Ytghhnimimccpoaa.P
end Go.Proofs.Ytghhnimimccpoaa.P
namespace Go.Proofs.Ytghhnimimccpoaa.Mm
end Go.Proofs.Ytghhnimimccpoaa.Mm
namespace Go.Proofs.Ytghhnimimccpoaa.Tl
end Go.Proofs.Ytghhnimimccpoaa.Tl
namespace Go.Proofs.Ytghhnimimccpoaa.R6
open Go.RowKit Go.Sort P Mm Tl
/-- A text, of whatever length. -/
def tS : Ty ByteArray := leaf 1 (fun s => [.string s]) (fun _ => True) (fun _ => rfl)
theorem str_at {w : World} {ao : Option Addr} {len cap : Nat} {xs : List ByteArray} (h : Row tS w ao len cap xs) {j : Nat} {s : ByteArray} (hj : xs[j]? = some s) : ∃ b o, ao = some ⟨b, o, none⟩ ∧ b < w.heap.size ∧ w.cell? ⟨b, o + j, none⟩ = some (.string s) := by
  obtain ⟨b, o, cs, h1, h2, ⟨h3, _⟩, h4⟩ := h.at hj
  subst h3
  refine ⟨b, o, h1, h2, ?_⟩
  have := h4 0 _ rfl
  rw [show tS.n = 1 from rfl, Nat.mul_one] at this
  exact this
/-- A number, whatever it is. -/
def tI : Ty Int := leaf 1 (fun x => [.int .i64 x]) (fun _ => True) (fun _ => rfl)
theorem int_at {w : World} {ao : Option Addr} {len cap : Nat} {xs : List Int} (h : Row tI w ao len cap xs) {j : Nat} {s : Int} (hj : xs[j]? = some s) : ∃ b o, ao = some ⟨b, o, none⟩ ∧ b < w.heap.size ∧ w.cell? ⟨b, o + j, none⟩ = some (.int .i64 s) := by
  obtain ⟨b, o, cs, h1, h2, ⟨h3, _⟩, h4⟩ := h.at hj
  subst h3
  refine ⟨b, o, h1, h2, ?_⟩
  have := h4 0 _ rfl
  rw [show tI.n = 1 from rfl, Nat.mul_one] at this
  exact this
theorem beq_str {s t : ByteArray} : (s.toList == t.toList) = true ↔ s = t := by
  rw [beq_iff_eq, ByteArray.toList_eq, ByteArray.toList_eq]
  constructor
  · intro h
    exact ByteArray.ext (Array.toList_inj.1 h)
  · rintro rfl; rfl
end Go.Proofs.Ytghhnimimccpoaa.R6

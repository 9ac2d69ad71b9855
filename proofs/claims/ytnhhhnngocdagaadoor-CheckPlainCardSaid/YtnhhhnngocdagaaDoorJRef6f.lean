/- What the document's answers for layer 6 (poundageref06) come to: Texts, Ints, Same. -/
import Derived.Test.YtnhhhnngocdagaaDoorJRef6e
namespace Go.Proofs.YtnhhhnngocdagaaDoor.R6
open Go.RowKit Go.Sort P Mm Tl
/-- A text, of whatever length. -/
def tS : Ty ByteArray := leaf 1 (fun s => [.string s]) (fun _ => True) (fun _ => rfl)
theorem str_at {w : World} {ao : Option Addr} {len cap : Nat} {xs : List ByteArray} (h : Row tS w ao len cap xs) {j : Nat} {s : ByteArray} (hj : xs[j]? = some s) : ∃ b o, ao = some ⟨b, o, none⟩ ∧ b < w.heap.size ∧ w.cell? ⟨b, o + j, none⟩ = some (.string s) := by
  obtain ⟨b, o, cs, h1, h2, ⟨h3, _⟩, h4⟩ := h.at hj
  subst h3
  refine ⟨b, o, h1, h2, ?_⟩
  have := h4 0 _ rfl
  rw [show tS.n = 1 from rfl, Nat.mul_one] at this
  exact this
/-- A number, whatever it is. -/
def tI : Ty Int := leaf 1 (fun x => [.int .i64 x]) (fun _ => True) (fun _ => rfl)
theorem int_at {w : World} {ao : Option Addr} {len cap : Nat} {xs : List Int} (h : Row tI w ao len cap xs) {j : Nat} {s : Int} (hj : xs[j]? = some s) : ∃ b o, ao = some ⟨b, o, none⟩ ∧ b < w.heap.size ∧ w.cell? ⟨b, o + j, none⟩ = some (.int .i64 s) := by
  obtain ⟨b, o, cs, h1, h2, ⟨h3, _⟩, h4⟩ := h.at hj
  subst h3
  refine ⟨b, o, h1, h2, ?_⟩
  have := h4 0 _ rfl
  rw [show tI.n = 1 from rfl, Nat.mul_one] at this
  exact this
theorem eq_upto {α : Type} {xs ys : List α} (hl : xs.length = ys.length) (h : ∀ j, j < xs.length → xs[j]? = ys[j]?) : xs = ys := by
  apply List.ext_getElem?
  intro j
  by_cases hj : j < xs.length
  · exact h j hj
  · rw [List.getElem?_eq_none (by omega), List.getElem?_eq_none (by omega)]
theorem beq_str {s t : ByteArray} : (s.toList == t.toList) = true ↔ s = t := by
  rw [beq_iff_eq, ByteArray.toList_eq, ByteArray.toList_eq]
  constructor
  · intro h
    exact ByteArray.ext (Array.toList_inj.1 h)
  · rintro rfl; rfl
end Go.Proofs.YtnhhhnngocdagaaDoor.R6

/- What the document's answers for layer 6 (poundageref06) come to: Same. -/
import Derived.Test.YtnhhhnngocdagaaDoorJRef6f
namespace Go.Proofs.YtnhhhnngocdagaaDoor.R6
open Go.RowKit Go.Sort P Mm Tl
/-- What is played: rows that aren't great. -/
structure Small (p : Plan) : Prop where
  meters : p.meters.length ≤ 20000
  fees : p.fees.length ≤ 20000
  charges : p.charges.length ≤ 20000
  parts : ∀ c ∈ p.charges, c.tiers.length ≤ 20000 ∧ c.adjusts.length ≤ 20000
theorem small_of {p : Plan} (h : great p = false) : Small p := by
  unfold great headGreat at h
  simp only [Bool.or_eq_false_iff, decide_eq_false_iff_not, Nat.not_lt] at h
  obtain ⟨⟨⟨⟨⟨⟨h1, h2⟩, h3⟩, _⟩, _⟩, _⟩, h4⟩ := h
  refine ⟨by omega, by omega, by omega, fun c hc => ?_⟩
  rw [List.any_eq_false] at h4
  have := h4 c hc
  unfold chargeGreat at this
  simp only [Bool.or_eq_true, decide_eq_true_eq, not_or, Nat.not_lt] at this
  exact ⟨by have := this.1.1; omega, by have := this.1.2; omega⟩
/-- Texts that a plan's row holds are as long as a text can be. -/
theorem row_len {p : Plan} (h : Small p) : (row p).length ≤ 10000000000 := by
  have hm : (p.meters.flatMap rM).length = p.meters.length * 3 := flat_len (f := rM) (n := 3) (fun _ => rfl) _
  have hf : (p.fees.flatMap rF).length = p.fees.length * 8 := flat_len (f := rF) (n := 8) (fun _ => rfl) _
  have hc : ∀ l : List Charge, (∀ c ∈ l, c.tiers.length ≤ 20000 ∧ c.adjusts.length ≤ 20000) → (l.flatMap rC).length ≤ l.length * 100014 := by
    intro l
    induction l with
    | nil => intro _; simp
    | cons c r ih =>
      intro hl
      have h1 := hl c (.head _)
      have h2 := ih fun x hx => hl x (.tail _ hx)
      have ht : (c.tiers.flatMap rT).length = c.tiers.length * 2 := flat_len (f := rT) (n := 2) (fun _ => rfl) _
      have ha : (c.adjusts.flatMap rA).length = c.adjusts.length * 3 := flat_len (f := rA) (n := 3) (fun _ => rfl) _
      have h3 : (rC c).length = 14 + c.tiers.length * 2 + c.adjusts.length * 3 := by
        unfold rC rCh
        simp only [List.length_append, ht, ha]
        rfl
      rw [List.flatMap_cons, List.length_append, h3, List.length_cons, Nat.succ_mul]
      omega
  have hc2 := hc p.charges h.parts
  have h1 := h.meters
  have h2 := h.fees
  have h3 := h.charges
  unfold row rHead
  simp only [List.length_append, hm, hf]
  show 2 + 7 + 3 + _ + _ + _ ≤ _
  omega
theorem strs_row {l : List ByteArray} {w : World} {base : Nat} {v : Value} (h : w.ownsRow base 9 1 v l.length (strs l)) : ∃ ao cap, v = .slice ao l.length cap ∧ Row tS w ao l.length cap l :=
  row_own (cells := fun s => [.string s]) (ok := fun _ => True) (hn := fun _ => rfl) h (fun _ _ => trivial)
theorem box13 {w : World} {cs : List Value} {t : TypeId} {j : Nat} {u : Value} (h : cs[j]? = some u) : (w.alloc (.cells cs.toArray t)).cell? ⟨w.heap.size, j, none⟩ = some u := by
  rw [World.cell?_alloc_new]
  simpa using h
end Go.Proofs.YtnhhhnngocdagaaDoor.R6

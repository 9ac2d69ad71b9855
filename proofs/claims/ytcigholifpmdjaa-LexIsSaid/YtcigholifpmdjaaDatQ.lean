/- Reading a day's text letter by letter, as plain arithmetic: no program is named here. -/
import Derived.Test.YtcigholifpmdjaaDatP
namespace Go.Proofs.Ytcigholifpmdjaa.P
open Go.RowKit

/-- Whether a letter is what must stand there. -/
def okAt (l : List UInt8) (i : Nat) : Bool := if i = 4 ∨ i = 7 then decide (l.getD i 0 = 45) else isD (l.getD i 0)
/-- What the digits up to there come to. -/
def nvl (l : List UInt8) : Nat → Nat
  | 0 => 0
  | i + 1 => if i = 4 ∨ i = 7 then nvl l i else 10 * nvl l i + ((l.getD i 0).toNat - 48)
theorem nvl_dash (l : List UInt8) {i : Nat} (h : i = 4 ∨ i = 7) : nvl l (i + 1) = nvl l i := by rw [nvl, if_pos h]
theorem nvl_dig (l : List UInt8) {i : Nat} (h : ¬ (i = 4 ∨ i = 7)) : nvl l (i + 1) = 10 * nvl l i + ((l.getD i 0).toNat - 48) := by rw [nvl, if_neg h]
theorem nvl_lt (l : List UInt8) : ∀ i, (∀ j, j < i → okAt l j = true) → nvl l i < 10 ^ i
  | 0, _ => by simp [nvl]
  | i + 1, h => by
    have ih := nvl_lt l i (fun j hj => h j (by omega))
    have hi := h i (by omega)
    rw [Nat.pow_succ]
    by_cases hd : i = 4 ∨ i = 7
    · rw [nvl_dash l hd]; omega
    · rw [nvl_dig l hd]
      unfold okAt at hi
      rw [if_neg hd] at hi
      have := isD_lt hi
      omega
theorem formed_iff {l : List UInt8} (hl : l.length = 10) : formed l = true ↔ ∀ j, j < 10 → okAt l j = true := by
  obtain ⟨a, b, c, d, e, f, g, i, j, k, rfl⟩ := ten hl
  constructor
  · intro h
    simp [formed] at h
    obtain ⟨⟨rfl, rfl⟩, ⟨ha, hb, hc, hd⟩, ⟨hf, hg⟩, hj, hk⟩ := h
    intro n hn
    have hn' : n = 0 ∨ n = 1 ∨ n = 2 ∨ n = 3 ∨ n = 4 ∨ n = 5 ∨ n = 6 ∨ n = 7 ∨ n = 8 ∨ n = 9 := by omega
    rcases hn' with rfl | rfl | rfl | rfl | rfl | rfl | rfl | rfl | rfl | rfl
    all_goals simp [okAt, *]
  · intro h
    have h0 := h 0 (by omega); have h1 := h 1 (by omega); have h2 := h 2 (by omega); have h3 := h 3 (by omega); have h4 := h 4 (by omega)
    have h5 := h 5 (by omega); have h6 := h 6 (by omega); have h7 := h 7 (by omega); have h8 := h 8 (by omega); have h9 := h 9 (by omega)
    simp [okAt] at h0 h1 h2 h3 h4 h5 h6 h7 h8 h9
    simp [formed, *]
theorem not_formed {l : List UInt8} {j : Nat} (hl : l.length = 10) (hj : j < 10) (h : okAt l j = false) : formed l = false := by
  rw [Bool.eq_false_iff]
  intro k
  have := (formed_iff hl).1 k j hj
  rw [h] at this
  cases this
theorem nvl_ten {l : List UInt8} (hl : l.length = 10) (h : formed l = true) : (nvl l 10 : Int) / 10000 = yearOf l ∧ (nvl l 10 : Int) / 100 % 100 = monthOf l ∧ (nvl l 10 : Int) % 100 = dayOf l := by
  obtain ⟨a, b, c, d, e, f, g, i, j, k, rfl⟩ := ten hl
  simp [formed] at h
  obtain ⟨⟨rfl, rfl⟩, ⟨ha, hb, hc, hd⟩, ⟨hf, hg⟩, hj, hk⟩ := h
  have l1 := isD_lt ha; have l2 := isD_lt hb; have l3 := isD_lt hc; have l4 := isD_lt hd
  have l5 := isD_lt hf; have l6 := isD_lt hg; have l7 := isD_lt hj; have l8 := isD_lt hk
  simp only [nvl, yearOf, monthOf, dayOf, List.take, List.drop, val, List.foldl, List.getD_cons_zero, List.getD_cons_succ, Nat.reduceEqDiff, or_true, true_or, or_self, reduceIte]
  omega
end Go.Proofs.Ytcigholifpmdjaa.P

/- Plain facts on rows of whole numbers: sums from the left, the least and the greatest one. No program is named here. -/
import Derived.Test.YtgbpginecahieaaPure
namespace Go.Proofs.Ytgbpginecahieaa.P
open Go.RowKit

/-- What is told of a slice of whole numbers that came in: it is nil, or it leads to a row of cells. -/
def IsRow (k : IntKind) (w : World) (a : Option Addr) (len cap : Nat) (zs : List Int) : Prop :=
  (a = none ∧ len = 0 ∧ cap = 0 ∧ zs = []) ∨
  ∃ x, a = some x ∧ len ≤ cap ∧ cap ≤ maxLen ∧ zs.length = cap ∧ (∀ i, i < zs.length → w.cell? (x.add i) = some (.int k (zs.getD i 0))) ∧ ∀ n ∈ zs, (Lit.int k n).wf = true

/-- The elements as cells: what a walk asks. -/
def Cells (w : World) (b off : Nat) (xs : List Int) : Prop := ∀ i, i < xs.length → w.cell? ⟨b, off + i, none⟩ = some (.int .i64 (xs.getD i 0))
theorem Cells.later {w w' : World} {b off : Nat} {xs : List Int} (h : Cells w b off xs) {B : Nat} (hb : Below B w w') (hB : b < B) : Cells w' b off xs :=
  fun i hi => by rw [hb.cell (p := ⟨b, off + i, none⟩) hB]; exact h i hi
theorem cell_block {w : World} {a : Addr} {v : Value} (h : w.cell? a = some v) : a.block < w.heap.size := by
  by_cases hb : a.block < w.heap.size
  · exact hb
  · exfalso
    have e : w.heap[a.block]? = none := by simp; omega
    unfold World.cell? at h
    simp [e] at h

def allI64 (xs : List Int) : Prop := ∀ n ∈ xs, I64 n
theorem allI64_get {xs : List Int} (h : allI64 xs) {k : Nat} (hk : k < xs.length) : I64 (xs.getD k 0) := by
  rw [List.getD_eq_getElem?_getD, List.getElem?_eq_getElem hk]; exact h _ (List.getElem_mem hk)

/-- The sum from the left, beginning with t; nought and false, if one goes beyond. -/
def sumTo (t : Int) : List Int → Int × Bool
  | [] => (t, true)
  | x :: r => if ok64 (t + x) = true then sumTo (t + x) r else (0, false)
theorem sumTo_end (t : Int) {xs : List Int} {k : Nat} (h : xs.length ≤ k) : sumTo t (xs.drop k) = (t, true) := by
  rw [List.drop_eq_nil_of_le h]; rfl
theorem drop_step {xs : List Int} {k : Nat} (h : k < xs.length) : xs.drop k = xs.getD k 0 :: xs.drop (k + 1) := by
  rw [List.drop_eq_getElem_cons h, List.getD_eq_getElem?_getD, List.getElem?_eq_getElem h]; rfl
theorem sumTo_yes {t : Int} {xs : List Int} {k : Nat} (h : k < xs.length) (hi : I64 (t + xs.getD k 0)) : sumTo t (xs.drop k) = sumTo (t + xs.getD k 0) (xs.drop (k + 1)) := by
  rw [drop_step h]; simp only [sumTo, if_pos (ok64_t hi)]
theorem sumTo_no {t : Int} {xs : List Int} {k : Nat} (h : k < xs.length) (hi : ¬ I64 (t + xs.getD k 0)) : sumTo t (xs.drop k) = (0, false) := by
  rw [drop_step h]; simp only [sumTo]; rw [if_neg (by rw [ok64_iff]; exact hi)]

/-- The best one so far, and on: by a way of telling what is better. -/
def bestOf (lt : Int → Int → Bool) (m : Int) : List Int → Int
  | [] => m
  | x :: r => bestOf lt (if lt x m = true then x else m) r
def ltB (a b : Int) : Bool := decide (a < b)
def gtB (a b : Int) : Bool := decide (b < a)
theorem bestOf_end (lt : Int → Int → Bool) (m : Int) {xs : List Int} {k : Nat} (h : xs.length ≤ k) : bestOf lt m (xs.drop k) = m := by
  rw [List.drop_eq_nil_of_le h]; rfl
theorem bestOf_yes {lt : Int → Int → Bool} {m : Int} {xs : List Int} {k : Nat} (h : k < xs.length) (hi : lt (xs.getD k 0) m = true) : bestOf lt m (xs.drop k) = bestOf lt (xs.getD k 0) (xs.drop (k + 1)) := by
  rw [drop_step h]; simp only [bestOf, if_pos hi]
theorem bestOf_no {lt : Int → Int → Bool} {m : Int} {xs : List Int} {k : Nat} (h : k < xs.length) (hi : lt (xs.getD k 0) m = false) : bestOf lt m (xs.drop k) = bestOf lt m (xs.drop (k + 1)) := by
  rw [drop_step h]; simp only [bestOf, hi]; rfl
theorem best_least (m : Int) (xs : List Int) : (bestOf ltB m xs = m ∨ bestOf ltB m xs ∈ xs) ∧ bestOf ltB m xs ≤ m ∧ ∀ x ∈ xs, bestOf ltB m xs ≤ x := by
  induction xs generalizing m with
  | nil => exact ⟨.inl rfl, Int.le_refl _, fun x h => by cases h⟩
  | cons y r ih =>
    have key : ∀ m', bestOf ltB m (y :: r) = bestOf ltB m' r → (m' = y ∨ m' = m) → m' ≤ m → m' ≤ y → (bestOf ltB m (y :: r) = m ∨ bestOf ltB m (y :: r) ∈ y :: r) ∧ bestOf ltB m (y :: r) ≤ m ∧ ∀ x ∈ y :: r, bestOf ltB m (y :: r) ≤ x := by
      intro m' e hm h1 h2
      rw [e]
      obtain ⟨ha, hb, hc⟩ := ih m'
      refine ⟨?_, Int.le_trans hb h1, ?_⟩
      · rcases ha with ha | ha
        · rcases hm with hm | hm
          · right; rw [ha, hm]; exact List.mem_cons_self
          · left; rw [ha, hm]
        · right; exact List.mem_cons_of_mem _ ha
      · intro x hx
        rcases List.mem_cons.1 hx with rfl | hx
        · exact Int.le_trans hb h2
        · exact hc x hx
    by_cases h : y < m
    · exact key y (by simp [bestOf, ltB, h]) (.inl rfl) (by omega) (by omega)
    · exact key m (by simp [bestOf, ltB, h]) (.inr rfl) (by omega) (by omega)
theorem best_most (m : Int) (xs : List Int) : (bestOf gtB m xs = m ∨ bestOf gtB m xs ∈ xs) ∧ m ≤ bestOf gtB m xs ∧ ∀ x ∈ xs, x ≤ bestOf gtB m xs := by
  induction xs generalizing m with
  | nil => exact ⟨.inl rfl, Int.le_refl _, fun x h => by cases h⟩
  | cons y r ih =>
    have key : ∀ m', bestOf gtB m (y :: r) = bestOf gtB m' r → (m' = y ∨ m' = m) → m ≤ m' → y ≤ m' → (bestOf gtB m (y :: r) = m ∨ bestOf gtB m (y :: r) ∈ y :: r) ∧ m ≤ bestOf gtB m (y :: r) ∧ ∀ x ∈ y :: r, x ≤ bestOf gtB m (y :: r) := by
      intro m' e hm h1 h2
      rw [e]
      obtain ⟨ha, hb, hc⟩ := ih m'
      refine ⟨?_, Int.le_trans h1 hb, ?_⟩
      · rcases ha with ha | ha
        · rcases hm with hm | hm
          · right; rw [ha, hm]; exact List.mem_cons_self
          · left; rw [ha, hm]
        · right; exact List.mem_cons_of_mem _ ha
      · intro x hx
        rcases List.mem_cons.1 hx with rfl | hx
        · exact Int.le_trans h2 hb
        · exact hc x hx
    by_cases h : m < y
    · exact key y (by simp [bestOf, gtB, h]) (.inl rfl) (by omega) (by omega)
    · exact key m (by simp [bestOf, gtB, h]) (.inr rfl) (by omega) (by omega)
/-- Has one of the first k been met? -/
def met (v : Int) (xs : List Int) (k : Nat) : Bool := (xs.take k).any (fun x => x == v)
theorem met_zero (v : Int) (xs : List Int) : met v xs 0 = false := rfl
theorem met_step (v : Int) {xs : List Int} {k : Nat} (h : k < xs.length) : met v xs (k + 1) = (met v xs k || xs.getD k 0 == v) := by
  unfold met
  rw [List.take_succ_eq_append_getElem h, List.any_append, List.getD_eq_getElem?_getD, List.getElem?_eq_getElem h]; simp
theorem met_all {v : Int} {xs : List Int} (h : v ∈ xs) : met v xs xs.length = true := by
  unfold met; rw [List.take_of_length_le (Nat.le_refl _), List.any_eq_true]; exact ⟨v, h, by simp⟩
end Go.Proofs.Ytgbpginecahieaa.P

/- Blocks of three cells, behind calls that leave them alone: no program is named here. -/
import Derived.Test.YtcigholifpmdjaaPure
import Derived.WalkSmall
import Derived.WalkKit
namespace Go.Proofs.Ytcigholifpmdjaa.P
open Go.RowKit

/-- Three cells of a block, and that they may be written. -/
structure Lies3 (w : World) (k : Nat) (a b c : Value) : Prop where
  lt : k < w.heap.size
  c0 : w.cell? ⟨k, 0, none⟩ = some a
  c1 : w.cell? ⟨k, 1, none⟩ = some b
  c2 : w.cell? ⟨k, 2, none⟩ = some c
  f0 : w.frozen? ⟨k, 0, none⟩ = false
  f1 : w.frozen? ⟨k, 1, none⟩ = false
  f2 : w.frozen? ⟨k, 2, none⟩ = false
theorem Lies3.on {w W : World} {k : Nat} {a b c : Value} (h : Lies3 w k a b c) (hb : Below w.heap.size w W) : Lies3 W k a b c := by
  obtain ⟨h1, h2, h3, h4, h5, h6, h7⟩ := h
  exact ⟨Nat.lt_of_lt_of_le h1 hb.size, by rw [hb.cell h1]; exact h2, by rw [hb.cell h1]; exact h3, by rw [hb.cell h1]; exact h4,
    by rw [hb.frozen h1]; exact h5, by rw [hb.frozen h1]; exact h6, by rw [hb.frozen h1]; exact h7⟩
theorem Lies3.new {w : World} {k : Nat} {a b c : Value} {t : TypeId} (hk : w.heap.size = k) : Lies3 (w.alloc (.cells #[a, b, c] t)) k a b c := by
  subst hk
  refine ⟨by simp, ?_, ?_, ?_, ?_, ?_, ?_⟩ <;> go_simp
theorem Lies3.later {w w2 : World} {k : Nat} {a b c : Value} {t : TypeId} (hb : Below (w.alloc (.cells #[a, b, c] t)).heap.size (w.alloc (.cells #[a, b, c] t)) w2) (hk : w.heap.size = k) : Lies3 w2 k a b c := (Lies3.new hk).on hb
theorem Lies3.alloc {w : World} {k : Nat} {a b c : Value} (h : Lies3 w k a b c) (o : Obj) : Lies3 (w.alloc o) k a b c := h.on ((Below.refl _ _).alloc (Nat.le_refl _) _)
theorem Lies3.drewN {w : World} {k : Nat} {a b c : Value} (h : Lies3 w k a b c) (n : Nat) : Lies3 (w.drewN n) k a b c := by
  refine h.on ⟨rfl, rfl, rfl, Nat.le_refl _, fun _ _ => rfl⟩
theorem Lies3.set0 {w : World} {k : Nat} {a b c : Value} (h : Lies3 w k a b c) (v : Value) : Lies3 (w.setCell ⟨k, 0, none⟩ v) k v b c := by
  obtain ⟨h1, h2, h3, h4, h5, h6, h7⟩ := h
  refine ⟨?_, ?_, ?_, ?_, ?_, ?_, ?_⟩ <;> go_simp
theorem Lies3.set1 {w : World} {k : Nat} {a b c : Value} (h : Lies3 w k a b c) (v : Value) : Lies3 (w.setCell ⟨k, 1, none⟩ v) k a v c := by
  obtain ⟨h1, h2, h3, h4, h5, h6, h7⟩ := h
  refine ⟨?_, ?_, ?_, ?_, ?_, ?_, ?_⟩ <;> go_simp
theorem Lies3.set2 {w : World} {k : Nat} {a b c : Value} (h : Lies3 w k a b c) (v : Value) : Lies3 (w.setCell ⟨k, 2, none⟩ v) k a b v := by
  obtain ⟨h1, h2, h3, h4, h5, h6, h7⟩ := h
  refine ⟨?_, ?_, ?_, ?_, ?_, ?_, ?_⟩ <;> go_simp
/-- A store into another block. -/
theorem Lies3.other {w : World} {k : Nat} {a b c : Value} (h : Lies3 w k a b c) {j o : Nat} (hj : k ≠ j) (v : Value) : Lies3 (w.setCell ⟨j, o, none⟩ v) k a b c := by
  obtain ⟨h1, h2, h3, h4, h5, h6, h7⟩ := h
  have e := Below.heap_setCell w ⟨j, o, none⟩ v k hj
  refine ⟨?_, ?_, ?_, ?_, ?_, ?_, ?_⟩
  · simpa using h1
  · rw [World.cell?_of_block (w := w) e]; exact h2
  · rw [World.cell?_of_block (w := w) e]; exact h3
  · rw [World.cell?_of_block (w := w) e]; exact h4
  · rw [World.frozen?_of_block (w := w) e]; exact h5
  · rw [World.frozen?_of_block (w := w) e]; exact h6
  · rw [World.frozen?_of_block (w := w) e]; exact h7
end Go.Proofs.Ytcigholifpmdjaa.P

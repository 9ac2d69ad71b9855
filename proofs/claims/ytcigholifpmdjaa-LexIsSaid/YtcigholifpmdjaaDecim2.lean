/- What package decimal does: number, and what a text is. -/
import Derived.Test.YtcigholifpmdjaaDecim
import Derived.Lib.AppendIntMem
namespace Go.Proofs.Ytcigholifpmdjaa.Dc
open Go.RowKit Go.Sort P Ex

theorem stV_ge : ∀ (b a : List UInt8), b.all isDg = true → stV a ≤ stV (a ++ b)
  | b, a, h => by
    rw [stV_digits b a h]
    have : 0 < 10 ^ b.length := Nat.pow_pos (by decide)
    have h2 : stV a * 1 ≤ stV a * 10 ^ b.length := Nat.mul_le_mul_left _ (by omega)
    omega
theorem stV_take (l : List UInt8) (i : Nat) (h : l.all isDg = true) : stV (l.take i) ≤ stV l := by
  have h2 : (l.drop i).all isDg = true := by
    rw [List.all_eq_true] at *
    exact fun b hb => h b (List.mem_of_mem_drop hb)
  have := stV_ge (l.drop i) (l.take i) h2
  rwa [List.take_append_drop] at this
/-! The worlds: the library's number MaxLen is some number, its table of powers of ten stands as laid. -/
def Mx (w : World) : Prop := ∃ m, w.cell? ⟨0, 0, none⟩ = some (.int .i64 m)
def Tab (w : World) : Prop := Lib.TabIs Try.prog w "internal/strconv.uint64pow10" .u64 Lib.pow10Tab
def K (w : World) : Prop := Mx w ∧ Tab w
theorem K.later {w w' : World} (h : K w) (b : Below w.heap.size w w') : K w' := by
  obtain ⟨⟨m, hm⟩, T⟩ := h
  exact ⟨⟨m, (b.cell (World.block_lt_of_cell? w _ hm)).trans hm⟩, Lib.tabBelow_of_tabIs T _ b⟩
theorem mx_of {w : World} (h : w.ShapedOpen Try.prog) : Mx w := Try.laysM145.s1_3 w h
theorem Mx.later {w w' : World} (h : Mx w) (b : Below w.heap.size w w') : Mx w' := by
  obtain ⟨m, hm⟩ := h
  exact ⟨m, (b.cell (World.block_lt_of_cell? w _ hm)).trans hm⟩
theorem cut_mx (s : ByteArray) (w : World) (k : Mx w) (hs : s.size ≤ 1000000) :
    Calls Try.prog 26 #[.string s, .string ⟨#[46]⟩] w fun e w' => e = .returned (.tuple #[.string ⟨(Lib.cut s.data.toList [46]).1.toArray⟩, .string ⟨(Lib.cut s.data.toList [46]).2.1.toArray⟩, .bool (Lib.cut s.data.toList [46]).2.2]) ∧ Below w.heap.size w w' := by
  obtain ⟨m, hm⟩ := k
  refine (Any.strings_Cut { Try.laysM145 with } s ⟨#[46]⟩ m w (by omega) hm).mono ?_
  rintro e w' ⟨rfl, n, rfl⟩
  exact ⟨rfl, bel_drewN (Below.refl _ _) n⟩
theorem cut_any (s : ByteArray) (w : World) (k : K w) (hs : s.size ≤ 1000000) :
    Calls Try.prog 26 #[.string s, .string ⟨#[46]⟩] w fun e w' => e = .returned (.tuple #[.string ⟨(Lib.cut s.data.toList [46]).1.toArray⟩, .string ⟨(Lib.cut s.data.toList [46]).2.1.toArray⟩, .bool (Lib.cut s.data.toList [46]).2.2]) ∧ Below w.heap.size w w' := cut_mx s w k.1 hs
end Go.Proofs.Ytcigholifpmdjaa.Dc

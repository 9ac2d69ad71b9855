/- The laws of layer 7: alive. -/
import Derived.Test.YteelbdcgdkpioaaGreatDoorJL07
namespace Go.Proofs.YteelbdcgdkpioaaGreatDoor.L07
open Go.RowKit Go.Sort P Mm Md Pa

/-- There is room for a plan in a block that was made as the last but one. -/
theorem there_pf (w : World) (t u : TypeId) : ((w.alloc (.cells #[.string ⟨#[]⟩, .string ⟨#[]⟩, .int .i64 0, .int .i64 0, .int .i64 0, .int .i64 0, .int .i64 0, .int .i64 0, .slice none 0 0, .slice none 0 0, .slice none 0 0, .int .i64 0, .int .i64 0] t)).alloc (.cells #[.int .i64 0, .int .i64 0, .int .i64 0] u)).there w.heap.size 0 13 := by
  have B := (Bx.new w [.string ⟨#[]⟩, .string ⟨#[]⟩, .int .i64 0, .int .i64 0, .int .i64 0, .int .i64 0, .int .i64 0, .int .i64 0, .slice none 0 0, .slice none 0 0, .slice none 0 0, .int .i64 0, .int .i64 0] t).on (bel_alloc (w.alloc (.cells #[.string ⟨#[]⟩, .string ⟨#[]⟩, .int .i64 0, .int .i64 0, .int .i64 0, .int .i64 0, .int .i64 0, .int .i64 0, .slice none 0 0, .slice none 0 0, .slice none 0 0, .int .i64 0, .int .i64 0] t)) (.cells #[.int .i64 0, .int .i64 0, .int .i64 0] u))
  exact there_of B.cell B.free rfl
theorem flt_pf (w : World) (t u : TypeId) (vs : List Value) : Bx (((w.alloc (.cells #[.string ⟨#[]⟩, .string ⟨#[]⟩, .int .i64 0, .int .i64 0, .int .i64 0, .int .i64 0, .int .i64 0, .int .i64 0, .slice none 0 0, .slice none 0 0, .slice none 0 0, .int .i64 0, .int .i64 0] t)).alloc (.cells #[.int .i64 0, .int .i64 0, .int .i64 0] u)).setCells w.heap.size 0 vs) (w.heap.size + 1) [.int .i64 0, .int .i64 0, .int .i64 0] := by
  have s1 : (w.alloc (.cells #[.string ⟨#[]⟩, .string ⟨#[]⟩, .int .i64 0, .int .i64 0, .int .i64 0, .int .i64 0, .int .i64 0, .int .i64 0, .slice none 0 0, .slice none 0 0, .slice none 0 0, .int .i64 0, .int .i64 0] t)).heap.size = w.heap.size + 1 := by simp
  have B := Bx.new (w.alloc (.cells #[.string ⟨#[]⟩, .string ⟨#[]⟩, .int .i64 0, .int .i64 0, .int .i64 0, .int .i64 0, .int .i64 0, .int .i64 0, .slice none 0 0, .slice none 0 0, .slice none 0 0, .int .i64 0, .int .i64 0] t)) [.int .i64 0, .int .i64 0, .int .i64 0] u
  rw [s1] at B
  exact bx_setCells (k := w.heap.size) (by omega) vs 0 _ B
end Go.Proofs.YteelbdcgdkpioaaGreatDoor.L07

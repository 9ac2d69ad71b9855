/- What the document's answers for layer 5 (poundageref05) come to: letter, Words. -/
import Derived.Test.YtcigholifpmdjaaLexP
import Derived.Test.YtcigholifpmdjaaRef4
namespace Go.Proofs.Ytcigholifpmdjaa.R5
open Go.RowKit P R4

set_option maxHeartbeats 1000000 in
theorem letter_any (x : Int) (w : World) : Calls Try.prog 13 #[.int .u8 x] w fun e w' => e = .returned (.bool (ltI x)) ∧ w' = w := by
  go_enter Try.func13, Try.ntmps13
  go_wp2
  all_goals
    go_ret
    refine ⟨ret_b ?_, rfl⟩
    unfold ltI
    simp_all
    try (rw [Bool.eq_iff_iff]; simp only [Bool.or_eq_true, Bool.and_eq_true, beq_iff_eq, decide_eq_true_eq]; omega)
def wordCells : Array Value := (words.map fun l => Value.string ⟨l.toArray⟩).toArray
theorem words_any (w : World) : Calls Try.prog 19 #[] w fun e w' => e = .returned (.slice (some ⟨w.heap.size, 0, none⟩) 26 26) ∧ w' = w.alloc (.cells wordCells 9) := by
  go_enter Try.func19, Try.ntmps19
  go_wp2
  go_ret
  exact ⟨rfl, rfl⟩
theorem word_cell (w : World) (i : Nat) (hi : i < 26) : (w.alloc (.cells wordCells 9)).cell? ⟨w.heap.size, i, none⟩ = some (.string ⟨(words.getD i []).toArray⟩) := by
  have hl : i < words.length := hi
  rw [World.cell?_alloc_new]
  show wordCells[i]? = _
  unfold wordCells
  simp [List.getElem?_map, List.getElem?_eq_getElem hl]
end Go.Proofs.Ytcigholifpmdjaa.R5

/- What the document's answers for layer 3 (poundageref03) come to: Leap, Days, Good, Number. -/
import Derived.Test.YtcigholifpmdjaaRows
import Derived.Test.YtcigholifpmdjaaDatP
import Derived.Test.YtcigholifpmdjaaDatB
import Derived.Test.YtcigholifpmdjaaMem
namespace Go.Proofs.Ytcigholifpmdjaa.R3
open Go.RowKit Go.Sort P

theorem leap_any (y : Int) (w : World) :
    Calls Try.prog 39 #[.int .i64 y] w fun e w' => e = .returned (.bool (leap y)) ∧ w' = w := by
  go_enter Try.func39, Try.ntmps39
  go_wp2
  all_goals
    go_ret
    refine ⟨ret_b ?_, rfl⟩
    unfold leap
    simp_all [tmb]
    try omega
set_option maxHeartbeats 1000000 in
theorem days_any (y m : Int) (w : World) :
    Calls Try.prog 36 #[.int .i64 y, .int .i64 m] w fun e w' => e = .returned (.int .i64 (days y m)) ∧ Below w.heap.size w w' := by
  by_cases h : m < 1 ∨ 12 < m
  · have e := hid (days_out (y := y) h)
    have hm : m < 1 ∨ (¬ m < 1 ∧ 12 < m) := by omega
    clear h
    go_enter Try.func36, Try.ntmps36
    rcases hm with h | ⟨h1, h2⟩
    · go_wp2
      go_ret
      exact ⟨ret_i e.out.symm, Below.refl _ _⟩
    · go_wp2
      go_ret
      exact ⟨ret_i e.out.symm, Below.refl _ _⟩
  · have hm : m = 1 ∨ m = 2 ∨ m = 3 ∨ m = 4 ∨ m = 5 ∨ m = 6 ∨ m = 7 ∨ m = 8 ∨ m = 9 ∨ m = 10 ∨ m = 11 ∨ m = 12 := by omega
    clear h
    by_cases h2 : m = 2
    · subst h2
      clear hm
      cases hl : leap y
      · have e : days y 2 = 28 := by unfold days; rw [lp_no hl]; rfl
        have E := hid e
        clear e
        go_enter Try.func36, Try.ntmps36
        go_wp2_with (go_at_call 39; refine (leap_any _ _).mono ?_; rintro e w' ⟨rfl, h'⟩; rw [h'])
        go_ret
        exact ⟨ret_i E.out.symm, (Below.refl _ _).alloc (Nat.le_refl _) _⟩
      · have e : days y 2 = 29 := by unfold days; rw [lp_yes hl]; rfl
        have E := hid e
        clear e
        go_enter Try.func36, Try.ntmps36
        go_wp2_with (go_at_call 39; refine (leap_any _ _).mono ?_; rintro e w' ⟨rfl, h'⟩; rw [h'])
        go_ret
        exact ⟨ret_i E.out.symm, Below.refl _ _⟩
    · rcases hm with rfl | rfl | rfl | rfl | rfl | rfl | rfl | rfl | rfl | rfl | rfl | rfl
      all_goals first | omega | skip
      all_goals
        go_enter Try.func36, Try.ntmps36
        go_wp2
        go_ret
        exact ⟨ret_i (by unfold days; rfl), (Below.refl _ _).alloc (Nat.le_refl _) _⟩
end Go.Proofs.Ytcigholifpmdjaa.R3

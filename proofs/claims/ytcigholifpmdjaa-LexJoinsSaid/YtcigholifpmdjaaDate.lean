/- What package date does. -/
import Derived.Test.YtcigholifpmdjaaDatP
import Derived.Test.YtcigholifpmdjaaDatB
import Derived.Test.YtcigholifpmdjaaLays
namespace Go.Proofs.Ytcigholifpmdjaa.Dt
open Go.RowKit Go.Sort P

theorem leap_any (y : Int) (w : World) :
    Calls Try.prog 44 #[.int .i64 y] w fun e w' => e = .returned (.bool (leap y)) ∧ w' = w := by
  go_enter Try.func44, Try.ntmps44
  go_wp2
  all_goals
    go_ret
    refine ⟨ret_b ?_, rfl⟩
    unfold leap
    simp_all [tm0]
    try exact tmb _ _
theorem days_any (y m : Int) (w : World) :
    Calls Try.prog 38 #[.int .i64 y, .int .i64 m] w fun e w' => e = .returned (.int .i64 (days y m)) ∧ w' = w := by
  go_enter Try.func38, Try.ntmps38
  go_wp2_with (go_at_call 44; refine (leap_any _ _).mono ?_; rintro e w' ⟨rfl, rfl⟩)
  all_goals
    go_ret
    refine ⟨ret_i ?_, rfl⟩
    unfold days lp
    simp_all
    try omega
theorem good_any (y m d : Int) (w : World) :
    Calls Try.prog 35 #[dv y m d] w fun e w' => e = .returned (.bool (good y m d)) ∧ Below w.heap.size w w' := by
  unfold dv
  by_cases h : 1 ≤ y ∧ y ≤ 9999 ∧ 1 ≤ d
  · obtain ⟨h1, h2, h3⟩ := h
    have b1 : decide (1 ≤ y) = true := decide_eq_true h1
    have b2 : decide (y ≤ 9999) = true := decide_eq_true h2
    have b3 : decide (1 ≤ d) = true := decide_eq_true h3
    have g : good y m d = decide (d ≤ days y m) := by unfold good; rw [decide_eq_decide]; omega
    have G := hid g
    clear g
    go_enter Try.func35, Try.ntmps35
    go_wp2
    go_quiet ((go_at_call 38; exact Calls.quiet_of_same (days_any _ _ _)))
    go_wp2
    go_ret
    exact ⟨ret_b G.out.symm, bel_drewN ((Below.refl _ _).alloc (Nat.le_refl _) _) _⟩
  · have g : good y m d = false := by unfold good; rw [decide_eq_false_iff_not]; omega
    have G := hid g
    clear g
    rcases Decidable.em (1 ≤ y) with h1 | h1
    · rcases Decidable.em (y ≤ 9999) with h2 | h2
      · have h3 : ¬ 1 ≤ d := fun h3 => h ⟨h1, h2, h3⟩
        have b1 : decide (1 ≤ y) = true := decide_eq_true h1
        have b2 : decide (y ≤ 9999) = true := decide_eq_true h2
        have b3 : decide (1 ≤ d) = false := decide_eq_false h3
        clear h
        go_enter Try.func35, Try.ntmps35
        go_wp2
        go_quiet (fail)
        go_wp2
        go_ret
        exact ⟨ret_b G.out.symm, bel_drewN ((Below.refl _ _).alloc (Nat.le_refl _) _) _⟩
      · have b1 : decide (1 ≤ y) = true := decide_eq_true h1
        have b2 : decide (y ≤ 9999) = false := decide_eq_false h2
        clear h
        go_enter Try.func35, Try.ntmps35
        go_wp2
        go_quiet (fail)
        go_wp2
        go_ret
        exact ⟨ret_b G.out.symm, bel_drewN ((Below.refl _ _).alloc (Nat.le_refl _) _) _⟩
    · have b1 : decide (1 ≤ y) = false := decide_eq_false h1
      clear h
      go_enter Try.func35, Try.ntmps35
      go_wp2
      go_quiet (fail)
      go_wp2
      go_ret
      exact ⟨ret_b G.out.symm, bel_drewN ((Below.refl _ _).alloc (Nat.le_refl _) _) _⟩
end Go.Proofs.Ytcigholifpmdjaa.Dt

/- What the document's answers for layer 3 (poundageref03) come to: Good, Number. -/
import Derived.Test.YtcigholifpmdjaaRef3
namespace Go.Proofs.Ytcigholifpmdjaa.R3
open Go.RowKit Go.Sort P

/-- A box of one's own, then what leaves the box alone. -/
theorem on2 {w w' : World} {o : Obj} (h : Below (w.alloc o).heap.size (w.alloc o) w') : Below w.heap.size w w' :=
  ((Below.refl _ _).alloc (Nat.le_refl _) _).trans (h.mono (by simp))
set_option maxHeartbeats 1000000 in
theorem good_any (y m d : Int) (w : World) :
    Calls Try.prog 31 #[dv y m d] w fun e w' => e = .returned (.bool (good y m d)) ∧ Below w.heap.size w w' := by
  unfold dv
  have cD : ∀ W, Calls Try.prog 36 #[.int .i64 y, .int .i64 m] W fun e w' => e = .returned (.int .i64 (days y m)) ∧ Below W.heap.size W w' := fun W => days_any y m W
  have L : Lies3 (w.alloc (.cells #[.int .i64 y, .int .i64 m, .int .i64 d] 48)) w.heap.size (.int .i64 y) (.int .i64 m) (.int .i64 d) := Lies3.new rfl
  have k0 := cell_regrown L.c0
  have k1 := cell_regrown L.c1
  have k2 := cell_regrown L.c2
  clear L
  by_cases h : 1 ≤ y ∧ y ≤ 9999 ∧ 1 ≤ m ∧ m ≤ 12 ∧ 1 ≤ d
  · obtain ⟨h1, h2, h3, h4, h5⟩ := h
    have g : good y m d = decide (d ≤ days y m) := by unfold good; rw [decide_eq_decide]; omega
    have G := hid g
    have b1 : decide (1 ≤ y) = true := decide_eq_true h1
    have b2 : decide (y ≤ 9999) = true := decide_eq_true h2
    have b3 : decide (1 ≤ m) = true := decide_eq_true h3
    have b4 : decide (m ≤ 12) = true := decide_eq_true h4
    have b5 : decide (1 ≤ d) = true := decide_eq_true h5
    have qD := fun a b c => Calls.regrown_of (cD (grow (redrawn (w.alloc a) b) c))
    clear g h1 h2 h3 h4 h5 cD
    go_enter Try.func31, Try.ntmps31
    go_wp2
    refine wp_region_quiet_below (by kernel_rfl) (by kernel_rfl) ?_
    repeat (go_big_quiet_step ((go_at_call 36; exact qD _ _ _)))
    refine wpQuiet_nil ?_
    intro _ hw'
    obtain ⟨⟨dq, osq⟩, hw''⟩ := hw'
    subst hw''
    go_wp2
    go_ret
    exact ⟨ret_b G.out.symm, on2 (below_regrown _ dq osq)⟩
  · have g : good y m d = false := by
      rw [Bool.eq_false_iff]
      intro k
      obtain ⟨a1, a2, a3, a4, a5, _⟩ := good_iff.1 k
      exact h ⟨a1, a2, a3, a4, a5⟩
    have G := hid g
    clear g cD
    rcases Decidable.em (1 ≤ y) with h1 | h1
    · have b1 : decide (1 ≤ y) = true := decide_eq_true h1
      rcases Decidable.em (y ≤ 9999) with h2 | h2
      · have b2 : decide (y ≤ 9999) = true := decide_eq_true h2
        rcases Decidable.em (1 ≤ m) with h3 | h3
        · have b3 : decide (1 ≤ m) = true := decide_eq_true h3
          rcases Decidable.em (m ≤ 12) with h4 | h4
          · have b4 : decide (m ≤ 12) = true := decide_eq_true h4
            rcases Decidable.em (1 ≤ d) with h5 | h5
            · exact absurd ⟨h1, h2, h3, h4, h5⟩ h
            · have b5 : decide (1 ≤ d) = false := decide_eq_false h5
              clear h
              go_enter Try.func31, Try.ntmps31
              go_wp2
              refine wp_region_quiet_below (by kernel_rfl) (by kernel_rfl) ?_
              repeat (go_big_quiet_step (fail))
              refine wpQuiet_nil ?_
              intro _ hw'
              obtain ⟨⟨dq, osq⟩, hw''⟩ := hw'
              subst hw''
              go_wp2
              go_ret
              exact ⟨ret_b G.out.symm, on2 (below_regrown _ dq osq)⟩
          · have b4 : decide (m ≤ 12) = false := decide_eq_false h4
            clear h
            go_enter Try.func31, Try.ntmps31
            go_wp2
            refine wp_region_quiet_below (by kernel_rfl) (by kernel_rfl) ?_
            repeat (go_big_quiet_step (fail))
            refine wpQuiet_nil ?_
            intro _ hw'
            obtain ⟨⟨dq, osq⟩, hw''⟩ := hw'
            subst hw''
            go_wp2
            go_ret
            exact ⟨ret_b G.out.symm, on2 (below_regrown _ dq osq)⟩
        · have b3 : decide (1 ≤ m) = false := decide_eq_false h3
          clear h
          go_enter Try.func31, Try.ntmps31
          go_wp2
          refine wp_region_quiet_below (by kernel_rfl) (by kernel_rfl) ?_
          repeat (go_big_quiet_step (fail))
          refine wpQuiet_nil ?_
          intro _ hw'
          obtain ⟨⟨dq, osq⟩, hw''⟩ := hw'
          subst hw''
          go_wp2
          go_ret
          exact ⟨ret_b G.out.symm, on2 (below_regrown _ dq osq)⟩
      · have b2 : decide (y ≤ 9999) = false := decide_eq_false h2
        clear h
        go_enter Try.func31, Try.ntmps31
        go_wp2
        refine wp_region_quiet_below (by kernel_rfl) (by kernel_rfl) ?_
        repeat (go_big_quiet_step (fail))
        refine wpQuiet_nil ?_
        intro _ hw'
        obtain ⟨⟨dq, osq⟩, hw''⟩ := hw'
        subst hw''
        go_wp2
        go_ret
        exact ⟨ret_b G.out.symm, on2 (below_regrown _ dq osq)⟩
    · have b1 : decide (1 ≤ y) = false := decide_eq_false h1
      clear h
      go_enter Try.func31, Try.ntmps31
      go_wp2
      refine wp_region_quiet_below (by kernel_rfl) (by kernel_rfl) ?_
      repeat (go_big_quiet_step (fail))
      refine wpQuiet_nil ?_
      intro _ hw'
      obtain ⟨⟨dq, osq⟩, hw''⟩ := hw'
      subst hw''
      go_wp2
      go_ret
      exact ⟨ret_b G.out.symm, on2 (below_regrown _ dq osq)⟩
end Go.Proofs.Ytcigholifpmdjaa.R3

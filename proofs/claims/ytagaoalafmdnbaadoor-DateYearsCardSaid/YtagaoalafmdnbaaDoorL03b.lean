/- The laws of layer 3: DateYears. -/
import Derived.Test.YtagaoalafmdnbaaDoorL03
namespace Go.Proofs.YtagaoalafmdnbaaDoor.L03
open Go.RowKit Go.Sort P Dt

theorem first_day (y : Int) (W : World) (h0 : 1 ≤ y) (h1 : y ≤ 9999) : Calls Tryd.prog 18 #[.agg #[.int .i64 y, .int .i64 1, .int .i64 1]] W fun e w' => e = .returned (.tuple #[.int .i64 (yrs y), .bool true]) ∧ Below W.heap.size W w' := by
  have g : good y 1 1 = true := good_iff.2 ⟨h0, h1, by omega, by omega, by omega, by have := days_in (y := y) (m := 1) (by omega) (by omega); omega⟩
  have h := number_yes y 1 1 W g
  have e : num y 1 1 = yrs y := by unfold num; rw [mon_1]; omega
  rw [e] at h
  exact h
set_option maxHeartbeats 1000000 in
theorem years_walk (y : Int) (w : World) (T : Tab w) : Calls Tryd.prog 7 #[.int .i64 y] w fun e w' => e = .returned (.bool true) ∧ Below w.heap.size w w' := by
  by_cases h : y < 1 ∨ 9998 < y
  · go_enter Tryd.func7, Tryd.ntmps7
    rcases h with h | h
    · go_wp2_with (go_at_call 9; refine (alive_any _ T).mono ?_; rintro e w1 ⟨rfl, b1⟩)
      go_ret
      exact ⟨rfl, b1⟩
    · have h2 : ¬ y < 1 := by omega
      go_wp2_with (go_at_call 9; refine (alive_any _ T).mono ?_; rintro e w1 ⟨rfl, b1⟩)
      go_ret
      exact ⟨rfl, b1⟩
  · have h0 : 1 ≤ y := by omega
    have h1 : y ≤ 9998 := by omega
    have hst := yrs_step y
    have hb := yrs_bound (y := y) h0 (by omega)
    have h13 := mon_13 y
    have e4 := yrs_400 y
    have l4 := lp_400 y
    have stp : ∀ k, 1 ≤ k → k ≤ 12 → mon y (k + 1) = mon y k + days y k := fun k a b => mon_step a b
    have bnd : ∀ k, 1 ≤ k → k ≤ 13 → 0 ≤ mon y k ∧ mon y k ≤ 366 := fun k a b => mon_bound a b
    obtain ⟨A, hA⟩ : ∃ A, A = yrs y := ⟨_, rfl⟩
    have eA := hA.symm
    rw [eA] at hst e4 hb
    clear hA h
    obtain ⟨D, hD, hDl⟩ : ∃ D, D = 365 + lp y ∧ ((leap y = true ∧ D = 366) ∨ (leap y = false ∧ D = 365)) := by
      refine ⟨_, rfl, ?_⟩
      cases hl : leap y
      · rw [lp_no hl]; exact .inr ⟨rfl, rfl⟩
      · rw [lp_yes hl]; exact .inl ⟨rfl, rfl⟩
    rw [← hD] at h13
    rw [Int.add_assoc, ← hD] at hst
    clear hD
    rcases hDl with ⟨hl, rfl⟩ | ⟨hl, rfl⟩
    all_goals
      rw [hl] at l4
      go_enter Tryd.func7, Tryd.ntmps7
      go_wp2_with (first
        | (go_at_call 9; refine (alive_any _ T).mono ?_; rintro e w1 ⟨rfl, b1⟩; have B := b1; clear b1)
        | (go_at_call 18; refine (first_day _ _ (by omega) (by omega)).mono ?_; rintro e w2 ⟨rfl, b2⟩; replace B := on B b2; clear b2))
      go_loop [7, 8] (fun s k => ∃ k' : Int, k = .int .i64 k' ∧ s = .int .i64 (mon y k') ∧ 1 ≤ k' ∧ k' ≤ 13) (fun _ k => (13 - intOf k).toNat)
      case atStart => exact ⟨1, rfl, by rw [mon_1], by omega, by omega⟩
      case round =>
        obtain ⟨k', rfl, rfl, k0, k1⟩ := hrel
        have hm := bnd k' k0 k1
        by_cases hk : k' ≤ 12
        · have hs := stp k' k0 hk
          have hd := days_bound y k'
          go_wp2_with (go_at_call 12; refine (days_any _ _ _).mono ?_; rintro e w' ⟨rfl, h'⟩; rw [h'])
          go_round
          case rel => exact ⟨k' + 1, rfl, by rw [hs], by omega, by omega⟩
          case measure => simp [intOf]; omega
        · obtain rfl : k' = 13 := by omega
          rw [h13]
          have n1 : A + 366 - A = 366 := by omega
          have n2 : A + 365 - A = 365 := by omega
          by_cases hy : y ≤ 9599
          · have n3 : A + 146097 - A = 146097 := by omega
            go_wp2_with (first
              | (go_at_call 18; refine (first_day _ _ (by omega) (by omega)).mono ?_; rintro e w4 ⟨rfl, b4⟩; replace B := on B b4; clear b4)
              | (go_at_call 10; refine (leap_any _ _).mono ?_; rintro e w5 ⟨rfl, h5⟩; rw [h5]))
            go_ret
            exact ⟨rfl, B⟩
          · have hy2 : 9599 < y := by omega
            go_wp2_with (go_at_call 10; refine (leap_any _ _).mono ?_; rintro e w5 ⟨rfl, h5⟩; rw [h5])
            go_ret
            exact ⟨rfl, B⟩
end Go.Proofs.YtagaoalafmdnbaaDoor.L03

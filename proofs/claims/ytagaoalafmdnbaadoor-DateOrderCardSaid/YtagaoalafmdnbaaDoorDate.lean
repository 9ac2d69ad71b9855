/- What package date does. -/
import Derived.Test.YtagaoalafmdnbaaDoorDatP
import Derived.Test.YtagaoalafmdnbaaDoorLays
import Derived.WalkSmall
import Derived.WalkKit
import Derived.BigQuiet
import Derived.Lib.QuietBelow
namespace Go.Proofs.YtagaoalafmdnbaaDoor.Dt
open Go.RowKit Go.Sort P

theorem bel_drewN {B : Nat} {a w : World} (h : Below B a w) (n : Nat) : Below B a (w.drewN n) := ⟨h.os, h.tape, h.output, h.size, h.block⟩
/-- A block of three cells, behind calls that leave it alone. -/
theorem box3 {w w1 : World} {a b c : Value} {t : TypeId} (h : Below (w.alloc (.cells #[a, b, c] t)).heap.size (w.alloc (.cells #[a, b, c] t)) w1) :
    w1.cell? ⟨w.heap.size, 0, none⟩ = some a ∧ w1.cell? ⟨w.heap.size, 1, none⟩ = some b ∧ w1.cell? ⟨w.heap.size, 2, none⟩ = some c ∧ w.heap.size < w1.heap.size ∧ Below w.heap.size w w1 := by
  have e : (w.alloc (.cells #[a, b, c] t)).heap.size = w.heap.size + 1 := by simp
  have k := h
  rw [e] at h
  have hs := h.size
  rw [e] at hs
  refine ⟨?_, ?_, ?_, hs, ((Below.refl _ _).alloc (Nat.le_refl _) _).trans (k.mono (by rw [e]; omega))⟩
  all_goals
    rw [h.cell (Nat.lt_succ_self _), World.cell?_alloc_new]
    rfl

theorem tm0 (y k : Int) : y.tmod k = 0 ↔ y % k = 0 := by rw [← Int.dvd_iff_tmod_eq_zero, ← Int.dvd_iff_emod_eq_zero]
theorem tmb (y k : Int) : (y.tmod k == 0) = decide (y % k = 0) := by rw [Bool.eq_iff_iff]; simp [tm0]
theorem ret_b {a b : Bool} (h : a = b) : Ending.returned (.bool a) = Ending.returned (.bool b) := by rw [h]
theorem ret_2 {a a' b b' : Value} (h : a = a') (k : b = b') : Ending.returned (.tuple #[a, b]) = Ending.returned (.tuple #[a', b']) := by rw [h, k]
theorem vi {a b : Int} (h : a = b) : Value.int .i64 a = Value.int .i64 b := by rw [h]
theorem ret_i {a b : Int} (h : a = b) : Ending.returned (.int .i64 a) = Ending.returned (.int .i64 b) := by rw [h]

theorem leap_any (y : Int) (w : World) :
    Calls Tryd.prog 10 #[.int .i64 y] w fun e w' => e = .returned (.bool (leap y)) ∧ w' = w := by
  go_enter Tryd.func10, Tryd.ntmps10
  go_wp2
  all_goals
    go_ret
    refine ⟨ret_b ?_, rfl⟩
    unfold leap
    simp_all [tm0]
    try exact tmb _ _
theorem days_any (y m : Int) (w : World) :
    Calls Tryd.prog 12 #[.int .i64 y, .int .i64 m] w fun e w' => e = .returned (.int .i64 (days y m)) ∧ w' = w := by
  go_enter Tryd.func12, Tryd.ntmps12
  go_wp2_with (go_at_call 10; refine (leap_any _ _).mono ?_; rintro e w' ⟨rfl, rfl⟩)
  all_goals
    go_ret
    refine ⟨ret_i ?_, rfl⟩
    unfold days lp
    simp_all
    try omega
theorem yrs_any (y : Int) (w : World) (h0 : 1 ≤ y) (h1 : y ≤ 10001) :
    Calls Tryd.prog 26 #[.int .i64 y] w fun e w' => e = .returned (.int .i64 (yrs y)) ∧ w' = w := by
  go_enter Tryd.func26, Tryd.ntmps26
  go_wp2
  go_ret
  exact ⟨ret_i (by unfold yrs; rfl), rfl⟩
/-- A day as the program holds it. -/
def dv (y m d : Int) : Value := .agg #[.int .i64 y, .int .i64 m, .int .i64 d]
theorem good_any (y m d : Int) (w : World) :
    Calls Tryd.prog 14 #[dv y m d] w fun e w' => e = .returned (.bool (good y m d)) ∧ Below w.heap.size w w' := by
  unfold dv
  by_cases h : 1 ≤ y ∧ y ≤ 9999 ∧ 1 ≤ d
  · obtain ⟨h1, h2, h3⟩ := h
    have b1 : decide (1 ≤ y) = true := decide_eq_true h1
    have b2 : decide (y ≤ 9999) = true := decide_eq_true h2
    have b3 : decide (1 ≤ d) = true := decide_eq_true h3
    have g : good y m d = decide (d ≤ days y m) := by unfold good; rw [decide_eq_decide]; omega
    have G := hid g
    clear g
    go_enter Tryd.func14, Tryd.ntmps14
    go_wp2
    go_quiet ((go_at_call 12; exact Calls.quiet_of_same (days_any _ _ _)))
    go_wp2
    go_ret
    exact ⟨ret_b G.out.symm, bel_drewN ((Below.refl _ _).alloc (Nat.le_refl _) _) _⟩
  · have g : good y m d = false := by unfold good; rw [decide_eq_false_iff_not]; omega
    have G := hid g
    clear g
    rcases Decidable.em (1 ≤ y) with h1 | h1
    · rcases Decidable.em (y ≤ 9999) with h2 | h2
      · have h3 : ¬ 1 ≤ d := fun h3 => h ⟨h1, h2, h3⟩
        have b1 : decide (1 ≤ y) = true := decide_eq_true h1
        have b2 : decide (y ≤ 9999) = true := decide_eq_true h2
        have b3 : decide (1 ≤ d) = false := decide_eq_false h3
        clear h
        go_enter Tryd.func14, Tryd.ntmps14
        go_wp2
        go_quiet (fail)
        go_wp2
        go_ret
        exact ⟨ret_b G.out.symm, bel_drewN ((Below.refl _ _).alloc (Nat.le_refl _) _) _⟩
      · have b1 : decide (1 ≤ y) = true := decide_eq_true h1
        have b2 : decide (y ≤ 9999) = false := decide_eq_false h2
        clear h
        go_enter Tryd.func14, Tryd.ntmps14
        go_wp2
        go_quiet (fail)
        go_wp2
        go_ret
        exact ⟨ret_b G.out.symm, bel_drewN ((Below.refl _ _).alloc (Nat.le_refl _) _) _⟩
    · have b1 : decide (1 ≤ y) = false := decide_eq_false h1
      clear h
      go_enter Tryd.func14, Tryd.ntmps14
      go_wp2
      go_quiet (fail)
      go_wp2
      go_ret
      exact ⟨ret_b G.out.symm, bel_drewN ((Below.refl _ _).alloc (Nat.le_refl _) _) _⟩
theorem number_no (y m d : Int) (w : World) (g : good y m d = false) :
    Calls Tryd.prog 18 #[dv y m d] w fun e w' => e = .returned (.tuple #[.int .i64 0, .bool false]) ∧ Below w.heap.size w w' := by
  unfold dv
  have cG := good_any y m d (w.alloc (.cells #[.int .i64 y, .int .i64 m, .int .i64 d] 23))
  rw [g] at cG
  go_enter Tryd.func18, Tryd.ntmps18
  go_wp2_with (go_at_call 14; refine cG.mono ?_; rintro e w1 ⟨rfl, bel⟩)
  go_ret2
  exact ⟨rfl, (box3 bel).2.2.2.2⟩
theorem number_yes (y m d : Int) (w : World) (g : good y m d = true) :
    Calls Tryd.prog 18 #[dv y m d] w fun e w' => e = .returned (.tuple #[.int .i64 (num y m d), .bool true]) ∧ Below w.heap.size w w' := by
  unfold dv
  have cG := good_any y m d (w.alloc (.cells #[.int .i64 y, .int .i64 m, .int .i64 d] 23))
  rw [g] at cG
  obtain ⟨h0, h1, h2, h3, h4, h5⟩ := good_iff.1 g
  have hd := days_bound y m
  have hy := yrs_bound (y := y) (by omega) (by omega)
  go_enter Tryd.func18, Tryd.ntmps18
  go_wp2_with (go_at_call 14; refine cG.mono ?_; rintro e w1 ⟨rfl, bel⟩; have M := box3 bel; obtain ⟨c0, c1, c2, hlt, bel'⟩ := M)
  clear cG bel
  go_quiet ((go_at_call 26; exact Calls.quiet_of_same (yrs_any _ _ h0 (by omega))))
  go_wp2
  go_loop [4, 5] (fun n k => ∃ k' : Int, k = .int .i64 k' ∧ n = .int .i64 (yrs y + d - 1 + mon y k') ∧ 1 ≤ k' ∧ k' ≤ m) (fun _ k => (m - intOf k).toNat)
  case atStart => exact ⟨1, rfl, by rw [mon_1]; simp, by omega, h2⟩
  case round =>
    obtain ⟨k', rfl, rfl, k0, k1⟩ := hrel
    have hm := mon_bound (y := y) k0 (by omega)
    have hk := days_bound y k'
    by_cases hlt2 : k' < m
    · have hs := mon_step (y := y) k0 (by omega)
      go_wp2_with (go_at_call 12; refine (days_any _ _ _).mono ?_; rintro e w' ⟨rfl, rfl⟩)
      go_round
      case rel => exact ⟨k' + 1, rfl, by rw [hs, Int.add_assoc], by omega, by omega⟩
      case measure => simp [intOf]; omega
    · obtain rfl : k' = m := by omega
      go_wp2
      go_ret2
      exact ⟨ret_2 (vi (by unfold num; omega)) rfl, bel_drewN bel' _⟩
theorem of_no (n : Int) (w : World) (h : n < 0 ∨ 3652059 ≤ n) :
    Calls Tryd.prog 20 #[.int .i64 n] w fun e w' => e = .returned (.tuple #[dv 0 0 0, .bool false]) ∧ Below w.heap.size w w' := by
  have cA : ∀ W, Calls Tryd.prog 26 #[.int .i64 10000] W fun e w' => e = .returned (.int .i64 3652059) ∧ w' = W := fun W => by
    have := yrs_any 10000 W (by omega) (by omega)
    rwa [yrs_10000] at this
  by_cases h0 : n < 0
  · go_enter Tryd.func20, Tryd.ntmps20
    go_wp2
    exact bodyPost_ret (v := .tuple #[.agg #[.int .i64 0, .int .i64 0, .int .i64 0], .bool false]) (by simp [results, Tryd.results20, go_sem]) rfl ⟨rfl, (Below.refl _ _).alloc (Nat.le_refl _) _⟩
  · have h1 : 3652059 ≤ n := by omega
    clear h
    go_enter Tryd.func20, Tryd.ntmps20
    go_wp2_with (go_at_call 26; refine (cA _).mono ?_; rintro e w' ⟨rfl, rfl⟩)
    exact bodyPost_ret (v := .tuple #[.agg #[.int .i64 0, .int .i64 0, .int .i64 0], .bool false]) (by simp [results, Tryd.results20, go_sem]) rfl ⟨rfl, (Below.refl _ _).alloc (Nat.le_refl _) _⟩
theorem of_yes (n : Int) (w : World) (h0 : 0 ≤ n) (h1 : n < 3652059) :
    Calls Tryd.prog 20 #[.int .i64 n] w fun e w' => (∃ y m d, good y m d = true ∧ num y m d = n ∧ e = .returned (.tuple #[dv y m d, .bool true])) ∧ Below w.heap.size w w' := by
  have cA : ∀ W, Calls Tryd.prog 26 #[.int .i64 10000] W fun e w' => e = .returned (.int .i64 3652059) ∧ w' = W := fun W => by
    have := yrs_any 10000 W (by omega) (by omega)
    rwa [yrs_10000] at this
  have g1 := yrs_guess h0
  have g0 : 0 ≤ n / 366 := by omega
  have g2 : n / 366 < 9999 := by omega
  go_enter Tryd.func20, Tryd.ntmps20
  go_wp2_with (go_at_call 26; refine (cA _).mono ?_; rintro e w' ⟨rfl, rfl⟩)
  go_loop [4] (fun s => ∃ y : Int, s = .int .i64 y ∧ 1 ≤ y ∧ y ≤ 9999 ∧ yrs y ≤ n) (fun s => (10000 - intOf s).toNat)
  case atStart => exact ⟨n / 366 + 1, rfl, by omega, by omega, g1⟩
  case round =>
    obtain ⟨y, rfl, y0, y1, hy⟩ := hrel
    have hb := yrs_bound (y := y + 1) (by omega) (by omega)
    by_cases ht : yrs (y + 1) ≤ n
    · have hlt : y + 1 ≤ 9999 := by
        rcases Decidable.em (y + 1 ≤ 9999) with k | k
        · exact k
        · have : y + 1 = 10000 := by omega
          rw [this, yrs_10000] at ht; omega
      go_wp2_with (go_at_call 26; refine (yrs_any _ _ (by omega) (by omega)).mono ?_; rintro e w' ⟨rfl, rfl⟩)
      go_round
      case rel => exact ⟨y + 1, rfl, by omega, hlt, ht⟩
      case measure => simp [intOf]; omega
    · have hs := yrs_step y
      have hl := lp_is y
      have hb0 := yrs_bound (y := y) (by omega) (by omega)
      have h13 := mon_13 y
      go_wp2_with (go_at_call 26; refine (yrs_any _ _ (by omega) (by omega)).mono ?_; rintro e w' ⟨rfl, rfl⟩)
      go_loop [5, 6] (fun r k => ∃ r' k' : Int, r = .int .i64 r' ∧ k = .int .i64 k' ∧ 1 ≤ k' ∧ k' ≤ 12 ∧ 0 ≤ r' ∧ r' + mon y k' + yrs y = n) (fun _ k => (13 - intOf k).toNat)
      case atStart => exact ⟨n - yrs y, 1, rfl, rfl, by omega, by omega, by omega, by rw [mon_1]; omega⟩
      case round =>
        obtain ⟨r', k', rfl, rfl, k0, k1, r0, hr⟩ := hrel
        have hst := mon_step (y := y) k0 k1
        have hd := days_in (y := y) k0 k1
        have hm := mon_bound (y := y) k0 (by omega)
        by_cases hc : days y k' ≤ r'
        · have hlt : k' + 1 ≤ 12 := by
            rcases Decidable.em (k' + 1 ≤ 12) with k | k
            · exact k
            · obtain rfl : k' = 12 := by omega
              rw [show (12 : Int) + 1 = 13 from rfl, h13] at hst; omega
          go_wp2_with (go_at_call 12; refine (days_any _ _ _).mono ?_; rintro e w' ⟨rfl, rfl⟩)
          go_round
          case rel => exact ⟨r' - days y k', k' + 1, rfl, rfl, by omega, hlt, by omega, by rw [hst]; omega⟩
          case measure => simp [intOf]; omega
        · go_wp2_with (go_at_call 12; refine (days_any _ _ _).mono ?_; rintro e w' ⟨rfl, rfl⟩)
          have g : good y k' (r' + 1) = true := good_iff.2 ⟨y0, y1, k0, k1, by omega, by omega⟩
          have e : num y k' (r' + 1) = n := by unfold num; omega
          exact bodyPost_ret (v := .tuple #[.agg #[.int .i64 y, .int .i64 k', .int .i64 (r' + 1)], .bool true]) (by simp [results, Tryd.results20, go_sem]) rfl ⟨⟨y, k', r' + 1, g, e, rfl⟩, (Below.refl _ _).alloc (Nat.le_refl _) _⟩
end Go.Proofs.YtagaoalafmdnbaaDoor.Dt

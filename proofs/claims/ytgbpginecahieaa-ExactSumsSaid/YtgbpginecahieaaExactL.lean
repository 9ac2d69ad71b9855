/- What exact.Sum, Least and Most answer, of all rows of whole numbers. -/
import Derived.Test.YtgbpginecahieaaPureL
import Derived.Test.YtgbpginecahieaaExact
import Derived.LoopTactic
import Derived.LoopN
namespace Go.Proofs.Ytgbpginecahieaa.Ex
open Go.RowKit P

set_option maxHeartbeats 400000 in
theorem sum_any (b off cap : Nat) (xs : List Int) (w : World) (hc : Cells w b off xs) (hx : allI64 xs) (hl : xs.length ≤ 1000000) :
    Calls Try.prog 19 #[.slice (some ⟨b, off, none⟩) xs.length cap] w fun e w' => e = .returned (.tuple #[.int .i64 (sumTo 0 xs).1, .bool (sumTo 0 xs).2]) ∧ w = w' := by
  have HC := hid hc
  have HX := hid hx
  clear hc hx
  go_enter Try.func19, Try.ntmps19
  go_wp2
  go_loop [4, 11] (fun t i => ∃ k : Nat, ∃ n : Int, k ≤ xs.length ∧ i = .int .i64 k ∧ t = .int .i64 n ∧ Hid (I64 n ∧ sumTo 0 xs = sumTo n (xs.drop k))) (fun _ i => xs.length - (intOf i).toNat)
  case atStart => exact ⟨0, 0, Nat.zero_le _, rfl, rfl, ⟨i64_0, rfl⟩⟩
  case round =>
    obtain ⟨k, n, hk, rfl, rfl, H⟩ := hrel
    by_cases hlt : k < xs.length
    · have hcell := HC.out k hlt
      have hxi := allI64_get HX.out hlt
      generalize hv : xs.getD k 0 = v at *
      have HV := hid hv
      have HXI := hid hxi
      clear hv hxi
      by_cases hi : I64 (n + v)
      · have HI := hid hi
        clear hi
        go_wp2_with (go_at_call 10; refine (add_yes _ _ _ HI.out).mono ?_; rintro e w' ⟨rfl, rfl⟩)
        go_round
        case rel => exact ⟨k + 1, n + v, by omega, by go_num, rfl, ⟨HI.out, by rw [H.out.2, sumTo_yes hlt (by rw [HV.out]; exact HI.out), HV.out]⟩⟩
        case measure => simp [intOf]; omega
      · have HI := hid hi
        clear hi
        go_wp2_with (go_at_call 10; refine (add_no _ _ _ H.out.1 HXI.out HI.out).mono ?_; rintro e w' ⟨rfl, rfl⟩)
        go_ret2
        have hfin : sumTo 0 xs = (0, false) := by rw [H.out.2]; exact sumTo_no hlt (by rw [HV.out]; exact HI.out)
        exact ⟨ret_2 (by rw [hfin]) (by rw [hfin]), rfl⟩
    · go_wp2
      go_ret2
      have hfin : sumTo 0 xs = (n, true) := by rw [H.out.2]; exact sumTo_end n (by omega)
      exact ⟨ret_2 (by rw [hfin]) (by rw [hfin]), rfl⟩
theorem sum_none (a : Option Addr) (cap : Nat) (w : World) :
    Calls Try.prog 19 #[.slice a 0 cap] w fun e w' => e = .returned (.tuple #[.int .i64 0, .bool true]) ∧ w = w' := by
  go_enter Try.func19, Try.ntmps19
  go_wp2
  refine wp_loop_rounds 1 ?_
  rw [rounds_succ]
  go_wp2
  go_ret2
  exact ⟨rfl, rfl⟩
theorem least_better (a b : Int) (w : World) :
    Calls Try.prog 28 #[.int .i64 a, .int .i64 b] w fun e w' => e = .returned (.bool (ltB a b)) ∧ w = w' := by
  go_enter Try.func28, Try.ntmps28
  go_wp2
  go_ret
  exact ⟨rfl, rfl⟩
theorem most_better (a b : Int) (w : World) :
    Calls Try.prog 29 #[.int .i64 a, .int .i64 b] w fun e w' => e = .returned (.bool (gtB a b)) ∧ w = w' := by
  go_enter Try.func29, Try.ntmps29
  go_wp2
  go_ret
  exact ⟨rfl, rfl⟩
set_option maxHeartbeats 400000 in
theorem best_many_least (b off cap : Nat) (x : Int) (r : List Int) (w : World) (hc : Cells w b off (x :: r)) (hl : r.length ≤ 1000000) (_hcap : r.length + 1 ≤ cap) (h1 : ¬ cap = 1) :
    Calls Try.prog 27 #[.func (.func 28) #[] #[], .slice (some ⟨b, off, none⟩) (r.length + 1) cap] w fun e w' => e = .returned (.tuple #[.int .i64 (bestOf ltB x r), .bool true]) ∧ w = w' := by
  have HC : Hid (Cells w b (off + 1) r) := fun i hi => by
    have := hc (i + 1) (by simpa using hi)
    rw [show off + (i + 1) = off + 1 + i by omega] at this
    simpa using this
  have hc0 : w.cell? ⟨b, off, none⟩ = some (.int .i64 x) := hc 0 (by simp)
  clear hc
  have e0 : (((r.length : Nat) : Int) + 1 == 0) = false := by simp; omega
  go_enter Try.func27, Try.ntmps27
  go_wp2
  go_loop [6, 18] (fun t i => ∃ k : Nat, ∃ n : Int, k ≤ r.length ∧ i = .int .i64 k ∧ t = .int .i64 n ∧ Hid (bestOf ltB x r = bestOf ltB n (r.drop k))) (fun _ i => r.length - (intOf i).toNat)
  case atStart => exact ⟨0, x, Nat.zero_le _, rfl, rfl, rfl⟩
  case round =>
    obtain ⟨k, n, hk, rfl, rfl, H⟩ := hrel
    by_cases hlt : k < r.length
    · have hcell := HC.out k hlt
      generalize hv : r.getD k 0 = v at *
      have HV := hid hv
      clear hv
      rcases Bool.eq_false_or_eq_true (ltB v n) with hb | hb
      · have HB := hid hb
        clear hb
        go_wp2_with fail
        refine (least_better _ _ _).mono ?_; rintro e w' ⟨rfl, rfl⟩; rw [HB.out]
        go_wp2
        go_round
        case rel => exact ⟨k + 1, v, by omega, by go_num, rfl, by show _ = _; rw [H.out, bestOf_yes hlt (by rw [HV.out]; exact HB.out), HV.out]⟩
        case measure => simp [intOf]; omega
      · have HB := hid hb
        clear hb
        go_wp2_with fail
        refine (least_better _ _ _).mono ?_; rintro e w' ⟨rfl, rfl⟩; rw [HB.out]
        go_wp2
        go_round
        case rel => exact ⟨k + 1, n, by omega, by go_num, rfl, by show _ = _; rw [H.out, bestOf_no hlt (by rw [HV.out]; exact HB.out)]⟩
        case measure => simp [intOf]; omega
    · go_wp2
      go_ret2
      exact ⟨ret_2 (by rw [H.out]; exact (bestOf_end ltB n (by omega)).symm) rfl, rfl⟩
theorem best_one_least (b off : Nat) (x : Int) (w : World) (hc0 : w.cell? ⟨b, off, none⟩ = some (.int .i64 x)) :
    Calls Try.prog 27 #[.func (.func 28) #[] #[], .slice (some ⟨b, off, none⟩) 1 1] w fun e w' => e = .returned (.tuple #[.int .i64 x, .bool true]) ∧ w = w' := by
  go_enter Try.func27, Try.ntmps27
  go_wp2
  refine wp_loop_rounds 1 ?_
  rw [rounds_succ]
  go_wp2
  go_ret2
  exact ⟨rfl, rfl⟩
theorem best_any_least (b off cap : Nat) (x : Int) (r : List Int) (w : World) (hc : Cells w b off (x :: r)) (hl : r.length ≤ 1000000) (hcap : r.length + 1 ≤ cap) :
    Calls Try.prog 27 #[.func (.func 28) #[] #[], .slice (some ⟨b, off, none⟩) (r.length + 1) cap] w fun e w' => e = .returned (.tuple #[.int .i64 (bestOf ltB x r), .bool true]) ∧ w = w' := by
  by_cases h1 : cap = 1
  · have hr : r = [] := List.eq_nil_of_length_eq_zero (by omega)
    subst h1 hr
    exact best_one_least b off x w (hc 0 (by simp))
  · exact best_many_least b off cap x r w hc hl hcap h1
set_option maxHeartbeats 400000 in
theorem best_many_most (b off cap : Nat) (x : Int) (r : List Int) (w : World) (hc : Cells w b off (x :: r)) (hl : r.length ≤ 1000000) (_hcap : r.length + 1 ≤ cap) (h1 : ¬ cap = 1) :
    Calls Try.prog 27 #[.func (.func 29) #[] #[], .slice (some ⟨b, off, none⟩) (r.length + 1) cap] w fun e w' => e = .returned (.tuple #[.int .i64 (bestOf gtB x r), .bool true]) ∧ w = w' := by
  have HC : Hid (Cells w b (off + 1) r) := fun i hi => by
    have := hc (i + 1) (by simpa using hi)
    rw [show off + (i + 1) = off + 1 + i by omega] at this
    simpa using this
  have hc0 : w.cell? ⟨b, off, none⟩ = some (.int .i64 x) := hc 0 (by simp)
  clear hc
  have e0 : (((r.length : Nat) : Int) + 1 == 0) = false := by simp; omega
  go_enter Try.func27, Try.ntmps27
  go_wp2
  go_loop [6, 18] (fun t i => ∃ k : Nat, ∃ n : Int, k ≤ r.length ∧ i = .int .i64 k ∧ t = .int .i64 n ∧ Hid (bestOf gtB x r = bestOf gtB n (r.drop k))) (fun _ i => r.length - (intOf i).toNat)
  case atStart => exact ⟨0, x, Nat.zero_le _, rfl, rfl, rfl⟩
  case round =>
    obtain ⟨k, n, hk, rfl, rfl, H⟩ := hrel
    by_cases hlt : k < r.length
    · have hcell := HC.out k hlt
      generalize hv : r.getD k 0 = v at *
      have HV := hid hv
      clear hv
      rcases Bool.eq_false_or_eq_true (gtB v n) with hb | hb
      · have HB := hid hb
        clear hb
        go_wp2_with fail
        refine (most_better _ _ _).mono ?_; rintro e w' ⟨rfl, rfl⟩; rw [HB.out]
        go_wp2
        go_round
        case rel => exact ⟨k + 1, v, by omega, by go_num, rfl, by show _ = _; rw [H.out, bestOf_yes hlt (by rw [HV.out]; exact HB.out), HV.out]⟩
        case measure => simp [intOf]; omega
      · have HB := hid hb
        clear hb
        go_wp2_with fail
        refine (most_better _ _ _).mono ?_; rintro e w' ⟨rfl, rfl⟩; rw [HB.out]
        go_wp2
        go_round
        case rel => exact ⟨k + 1, n, by omega, by go_num, rfl, by show _ = _; rw [H.out, bestOf_no hlt (by rw [HV.out]; exact HB.out)]⟩
        case measure => simp [intOf]; omega
    · go_wp2
      go_ret2
      exact ⟨ret_2 (by rw [H.out]; exact (bestOf_end gtB n (by omega)).symm) rfl, rfl⟩
theorem best_one_most (b off : Nat) (x : Int) (w : World) (hc0 : w.cell? ⟨b, off, none⟩ = some (.int .i64 x)) :
    Calls Try.prog 27 #[.func (.func 29) #[] #[], .slice (some ⟨b, off, none⟩) 1 1] w fun e w' => e = .returned (.tuple #[.int .i64 x, .bool true]) ∧ w = w' := by
  go_enter Try.func27, Try.ntmps27
  go_wp2
  refine wp_loop_rounds 1 ?_
  rw [rounds_succ]
  go_wp2
  go_ret2
  exact ⟨rfl, rfl⟩
theorem best_any_most (b off cap : Nat) (x : Int) (r : List Int) (w : World) (hc : Cells w b off (x :: r)) (hl : r.length ≤ 1000000) (hcap : r.length + 1 ≤ cap) :
    Calls Try.prog 27 #[.func (.func 29) #[] #[], .slice (some ⟨b, off, none⟩) (r.length + 1) cap] w fun e w' => e = .returned (.tuple #[.int .i64 (bestOf gtB x r), .bool true]) ∧ w = w' := by
  by_cases h1 : cap = 1
  · have hr : r = [] := List.eq_nil_of_length_eq_zero (by omega)
    subst h1 hr
    exact best_one_most b off x w (hc 0 (by simp))
  · exact best_many_most b off cap x r w hc hl hcap h1
theorem best_none_least (a : Option Addr) (cap : Nat) (w : World) :
    Calls Try.prog 27 #[.func (.func 28) #[] #[], .slice a 0 cap] w fun e w' => e = .returned (.tuple #[.int .i64 0, .bool false]) ∧ w = w' := by
  go_enter Try.func27, Try.ntmps27
  go_wp2
  go_ret2
  exact ⟨rfl, rfl⟩
theorem best_none_most (a : Option Addr) (cap : Nat) (w : World) :
    Calls Try.prog 27 #[.func (.func 29) #[] #[], .slice a 0 cap] w fun e w' => e = .returned (.tuple #[.int .i64 0, .bool false]) ∧ w = w' := by
  go_enter Try.func27, Try.ntmps27
  go_wp2
  go_ret2
  exact ⟨rfl, rfl⟩
theorem least_any (b off cap : Nat) (x : Int) (r : List Int) (w : World) (hc : Cells w b off (x :: r)) (hl : r.length ≤ 1000000) (hcap : r.length + 1 ≤ cap) :
    Calls Try.prog 21 #[.slice (some ⟨b, off, none⟩) (r.length + 1) cap] w fun e w' => e = .returned (.tuple #[.int .i64 (bestOf ltB x r), .bool true]) ∧ w = w' := by
  have HC := hid hc
  clear hc
  go_enter Try.func21, Try.ntmps21
  go_wp2_with fail
  refine (best_any_least _ _ _ x r _ HC.out hl hcap).mono ?_; rintro e w' ⟨rfl, rfl⟩
  go_wp2
  go_ret2
  exact ⟨rfl, rfl⟩
theorem most_any (b off cap : Nat) (x : Int) (r : List Int) (w : World) (hc : Cells w b off (x :: r)) (hl : r.length ≤ 1000000) (hcap : r.length + 1 ≤ cap) :
    Calls Try.prog 22 #[.slice (some ⟨b, off, none⟩) (r.length + 1) cap] w fun e w' => e = .returned (.tuple #[.int .i64 (bestOf gtB x r), .bool true]) ∧ w = w' := by
  have HC := hid hc
  clear hc
  go_enter Try.func22, Try.ntmps22
  go_wp2_with fail
  refine (best_any_most _ _ _ x r _ HC.out hl hcap).mono ?_; rintro e w' ⟨rfl, rfl⟩
  go_wp2
  go_ret2
  exact ⟨rfl, rfl⟩
theorem least_none (a : Option Addr) (cap : Nat) (w : World) :
    Calls Try.prog 21 #[.slice a 0 cap] w fun e w' => e = .returned (.tuple #[.int .i64 0, .bool false]) ∧ w = w' := by
  go_enter Try.func21, Try.ntmps21
  go_wp2_with fail
  refine (best_none_least _ _ _).mono ?_; rintro e w' ⟨rfl, rfl⟩
  go_wp2
  go_ret2
  exact ⟨rfl, rfl⟩
theorem most_none (a : Option Addr) (cap : Nat) (w : World) :
    Calls Try.prog 22 #[.slice a 0 cap] w fun e w' => e = .returned (.tuple #[.int .i64 0, .bool false]) ∧ w = w' := by
  go_enter Try.func22, Try.ntmps22
  go_wp2_with fail
  refine (best_none_most _ _ _).mono ?_; rintro e w' ⟨rfl, rfl⟩
  go_wp2
  go_ret2
  exact ⟨rfl, rfl⟩
end Go.Proofs.Ytgbpginecahieaa.Ex

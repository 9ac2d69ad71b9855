/- The laws of layer 3: DateReads. -/
import Derived.Test.YtagaoalafmdnbaaDoorL03
import Derived.Test.YtagaoalafmdnbaaDoorRef3d
import Derived.Test.YtagaoalafmdnbaaDoorRef3f
namespace Go.Proofs.YtagaoalafmdnbaaDoor.L03
open Go.RowKit Go.Sort P Dt

/-- The day behind a day. -/
theorem next_day {y m d : Int} (g : good y m d = true) (h : num y m d + 1 < 3652059) :
    (good y m (d + 1) = true ∧ num y m (d + 1) = num y m d + 1) ∨
    (d = days y m ∧ ∃ y' m', good y' m' 1 = true ∧ num y' m' 1 = num y m d + 1) := by
  obtain ⟨h0, h1, h2, h3, h4, h5⟩ := good_iff.1 g
  have hst := mon_step (y := y) h2 h3
  by_cases hd : d < days y m
  · exact .inl ⟨good_iff.2 ⟨h0, h1, h2, h3, by omega, by omega⟩, by unfold num; omega⟩
  · refine .inr ⟨by omega, ?_⟩
    by_cases hm : m < 12
    · have := days_in (y := y) (m := m + 1) (by omega) (by omega)
      exact ⟨y, m + 1, good_iff.2 ⟨h0, h1, by omega, by omega, by omega, by omega⟩, by unfold num; rw [hst]; omega⟩
    · obtain rfl : m = 12 := by omega
      have hy := yrs_step y
      have h13 := mon_13 y
      rw [show (12 : Int) + 1 = 13 from rfl, h13] at hst
      have e : yrs (y + 1) = num y 12 d + 1 := by unfold num; omega
      have hlt : y < 9999 := by
        rcases Decidable.em (y < 9999) with k | k
        · exact k
        · obtain rfl : y = 9999 := by omega
          rw [show (9999 : Int) + 1 = 10000 from rfl, yrs_10000] at e
          omega
      have := days_in (y := y + 1) (m := 1) (by omega) (by omega)
      exact ⟨y + 1, 1, good_iff.2 ⟨by omega, by omega, by omega, by omega, by omega, by omega⟩, by unfold num; rw [mon_1]; unfold num at e; omega⟩
theorem day_of (n : Nat) : (n : Int) < 3652059 → ∃ y m d, good y m d = true ∧ num y m d = (n : Int) := by
  induction n with
  | zero => intro _; exact ⟨1, 1, 1, by decide, by decide⟩
  | succ n ih =>
    intro h
    obtain ⟨y, m, d, g, e⟩ := ih (by omega)
    rcases next_day g (by omega) with ⟨g', e'⟩ | ⟨_, y', m', g', e'⟩
    · exact ⟨y, m, d + 1, g', by omega⟩
    · exact ⟨y', m', 1, g', by omega⟩
/-- Both answers on a number. -/
theorem of_both (n : Int) : ∃ (A B C : Int) (ok : Bool),
    (∀ W, Calls Tryd.prog 20 #[.int .i64 n] W fun e w' => e = .returned (.tuple #[.agg #[.int .i64 A, .int .i64 B, .int .i64 C], .bool ok]) ∧ Below W.heap.size W w') ∧
    (∀ W, Calls Tryd.prog 21 #[.int .i64 n] W fun e w' => e = .returned (.tuple #[.agg #[.int .i64 A, .int .i64 B, .int .i64 C], .bool ok]) ∧ Below W.heap.size W w') := by
  by_cases h : n < 0 ∨ 3652059 ≤ n
  · refine ⟨0, 0, 0, false, fun W => of_no n W h, fun W => R3.of_walk n _ W (hid fun _ => rfl) (hid fun y m d g e => ?_)⟩
    have := num_bound g
    omega
  · obtain ⟨y, m, d, g, e⟩ := day_of n.toNat (by omega)
    have e' : num y m d = n := by omega
    subst e'
    refine ⟨y, m, d, true, fun W => of_at y m d W g, fun W => R3.of_walk _ _ W (hid fun k => absurd k h) (hid fun y' m' d' g' e' => ?_)⟩
    obtain ⟨rfl, rfl, rfl⟩ := num_inj g' g e'
    rfl
/-- Both answers on a text. -/
theorem parse_both (s : ByteArray) : ∃ (A B C : Int) (ok : Bool),
    (∀ W, Calls Tryd.prog 22 #[.string s] W fun e w' => e = .returned (.tuple #[.agg #[.int .i64 A, .int .i64 B, .int .i64 C], .bool ok]) ∧ Below W.heap.size W w') ∧
    (∀ W, Calls Tryd.prog 23 #[.string s] W fun e w' => e = .returned (.tuple #[.agg #[.int .i64 A, .int .i64 B, .int .i64 C], .bool ok]) ∧ Below W.heap.size W w') := by
  have hp := fun W => parse_any s W
  by_cases hs : s.size = 10
  · by_cases hr : reads s.data.toList = true
    · simp only [if_pos hr] at hp
      exact ⟨_, _, _, true, hp, fun W => R3.parse_walk s _ W hs (hid fun k => by rw [hr] at k; cases k) (hid fun _ => rfl)⟩
    · simp only [if_neg hr] at hp
      exact ⟨_, _, _, false, hp, fun W => R3.parse_walk s _ W hs (hid fun _ => rfl) (hid fun k => absurd k hr)⟩
  · have hr : ¬ reads s.data.toList = true := by
      have : s.data.toList.length ≠ 10 := by simpa using hs
      unfold reads formed
      rw [decide_eq_false this]
      simp
    simp only [if_neg hr] at hp
    exact ⟨_, _, _, false, hp, fun W => R3.parse_len s W hs⟩
set_option maxHeartbeats 2000000 in
theorem reads_walk (n : Int) (s : ByteArray) (w : World) (T : Tab w) : Calls Tryd.prog 4 #[.int .i64 n, .string s] w fun e w' => e = .returned (.bool true) ∧ Below w.heap.size w w' := by
  by_cases hs : (100 : Int) < (s.size : Int)
  · go_enter Tryd.func4, Tryd.ntmps4
    go_wp2_with (go_at_call 9; refine (alive_any _ T).mono ?_; rintro e w1 ⟨rfl, b1⟩)
    go_ret
    exact ⟨rfl, b1⟩
  · obtain ⟨A, B, C, ok, cO, cO'⟩ := of_both n
    obtain ⟨A', B', C', ok', cP, cP'⟩ := parse_both s
    go_enter Tryd.func4, Tryd.ntmps4
    go_wp2_with (first
      | (go_at_call 9; refine (alive_any _ T).mono ?_; rintro e w1 ⟨rfl, b1⟩)
      | (go_at_call 20; refine (cO _).mono ?_; rintro e w2 ⟨rfl, b2⟩; have B2 := on b1 b2)
      | (go_at_call 21; refine (cO' _).mono ?_; rintro e w3 ⟨rfl, b3⟩; have LA := Lies3.later b3 rfl; have B3 := on B2 (box3 b3).2.2.2.2)
      | (go_at_call 22; refine (cP _).mono ?_; rintro e w4 ⟨rfl, b4⟩; have LB := Lies3.later b4 rfl; have B4 := on B3 (box3 b4).2.2.2.2; have LA4 := (LA.alloc _).on b4)
      | (go_at_call 23; refine (cP' _).mono ?_; rintro e w5 ⟨rfl, b5⟩; have LC := Lies3.later b5 rfl; have B5 := on B4 (box3 b5).2.2.2.2; have LA5 := (LA4.alloc _).on b5; have LB5 := (LB.alloc _).on b5; obtain ⟨l1, p0, p1, p2, _, _, _⟩ := LA5; obtain ⟨l2, q0, q1, q2, _, _, _⟩ := LB5; obtain ⟨l3, r0, r1, r2, _, _, _⟩ := LC))
    go_ret
    exact ⟨ret_b (by simp), B5.alloc B5.size _⟩
end Go.Proofs.YtagaoalafmdnbaaDoor.L03

/- What each call of package exact answers, for all numbers of 64 bits: contracts over the walked program. -/
import Derived.Test.YtgbpginecahieaaRows
import Derived.Test.YtgbpginecahieaaPure
import Derived.WalkKit
import Derived.ProofKit
import Derived.BigQuiet
import Derived.Deep.QuietTactic
namespace Go.Proofs.Ytgbpginecahieaa.Ex
open Go.RowKit P

theorem ret_2 {k : IntKind} {a b : Int} {p q : Bool} (h : a = b) (h' : p = q) : Ending.returned (.tuple #[.int k a, .bool p]) = .returned (.tuple #[.int k b, .bool q]) := by rw [h, h']
theorem ret_3 {k l : IntKind} {a b c d : Int} {p q : Bool} (h : a = b) (h1 : c = d) (h' : p = q) : Ending.returned (.tuple #[.int k a, .int l c, .bool p]) = .returned (.tuple #[.int k b, .int l d, .bool q]) := by rw [h, h1, h']

theorem add_yes (a b : Int) (w : World) (h : I64 (a + b)) :
    Calls Try.prog 10 #[.int .i64 a, .int .i64 b] w fun e w' => e = .returned (.tuple #[.int .i64 (a + b), .bool true]) ∧ w = w' := by
  have ht := add_test_yes h
  have H := hid (wrap_in h)
  clear h
  go_enter Try.func10, Try.ntmps10
  go_wp2
  go_ret2
  exact ⟨ret_2 H.out rfl, rfl⟩
theorem add_no (a b : Int) (w : World) (ha : I64 a) (hb : I64 b) (h : ¬ I64 (a + b)) :
    Calls Try.prog 10 #[.int .i64 a, .int .i64 b] w fun e w' => e = .returned (.tuple #[.int .i64 0, .bool false]) ∧ w = w' := by
  have ht := add_test_no ha hb h
  clear ha hb h
  go_enter Try.func10, Try.ntmps10
  go_wp2
  go_ret2
  exact ⟨rfl, rfl⟩
theorem add_any (a b : Int) (w : World) (ha : I64 a) (hb : I64 b) :
    Calls Try.prog 10 #[.int .i64 a, .int .i64 b] w fun e w' => e = .returned (.tuple #[.int .i64 (cut64 (a + b)), .bool (ok64 (a + b))]) ∧ w = w' := by
  by_cases h : I64 (a + b)
  · rw [cut64_t h, ok64_t h]; exact add_yes a b w h
  · rw [cut64_f h, ok64_f h]; exact add_no a b w ha hb h
theorem sub_yes (a b : Int) (w : World) (h : I64 (a - b)) :
    Calls Try.prog 11 #[.int .i64 a, .int .i64 b] w fun e w' => e = .returned (.tuple #[.int .i64 (a - b), .bool true]) ∧ w = w' := by
  have ht := sub_test_yes h
  have H := hid (wrap_in h)
  clear h
  go_enter Try.func11, Try.ntmps11
  go_wp2
  go_ret2
  exact ⟨ret_2 H.out rfl, rfl⟩
theorem sub_no (a b : Int) (w : World) (ha : I64 a) (hb : I64 b) (h : ¬ I64 (a - b)) :
    Calls Try.prog 11 #[.int .i64 a, .int .i64 b] w fun e w' => e = .returned (.tuple #[.int .i64 0, .bool false]) ∧ w = w' := by
  have ht := sub_test_no ha hb h
  clear ha hb h
  go_enter Try.func11, Try.ntmps11
  go_wp2
  go_ret2
  exact ⟨rfl, rfl⟩
theorem sub_any (a b : Int) (w : World) (ha : I64 a) (hb : I64 b) :
    Calls Try.prog 11 #[.int .i64 a, .int .i64 b] w fun e w' => e = .returned (.tuple #[.int .i64 (cut64 (a - b)), .bool (ok64 (a - b))]) ∧ w = w' := by
  by_cases h : I64 (a - b)
  · rw [cut64_t h, ok64_t h]; exact sub_yes a b w h
  · rw [cut64_f h, ok64_f h]; exact sub_no a b w ha hb h
theorem mul_any (a b : Int) (w : World) (ha : I64 a) (hb : I64 b) :
    Calls Try.prog 12 #[.int .i64 a, .int .i64 b] w fun e w' => e = .returned (.tuple #[.int .i64 (cut64 (a * b)), .bool (ok64 (a * b))]) ∧ w = w' := by
  by_cases h0 : a = 0
  · subst h0
    rw [Int.zero_mul, cut64_t i64_0, ok64_t i64_0]
    clear ha hb
    go_enter Try.func12, Try.ntmps12
    go_wp2
    go_ret2
    exact ⟨rfl, rfl⟩
  · by_cases h1 : a = -1
    · subst h1
      have e : (-1 : Int) * b = -b := by omega
      rw [e]
      clear e h0 ha
      have hb' : Hid (I64 b) := hid hb
      clear hb
      go_enter Try.func12, Try.ntmps12
      go_wp2_with (go_at_call 11; refine (sub_any _ _ _ i64_0 hb'.out).mono ?_; rintro e w' ⟨rfl, rfl⟩; simp only [Int.zero_sub])
      go_ret2
      exact ⟨rfl, rfl⟩
    · have e0 : (a == 0) = false := by simpa using h0
      have e1 : (a == -1) = false := by simpa using h1
      by_cases h : I64 (a * b)
      · have ht : (wrap64 ((wrap64 (a * b)).tdiv a) != b) = false := by rw [mul_test_yes hb h0 h]; simp
        have H := hid (wrap_in h)
        have H2 := hid h
        clear ha hb h h1
        go_enter Try.func12, Try.ntmps12
        go_wp2
        go_ret2
        exact ⟨ret_2 (by rw [H.out, cut64_t H2.out]) (by rw [ok64_t H2.out]), rfl⟩
      · have ht : (wrap64 ((wrap64 (a * b)).tdiv a) != b) = true := by
          rcases mul_test_no ha h0 h with h2 | h2
          · simpa using h2
          · exact absurd h2 h1
        rw [cut64_f h, ok64_f h]
        clear ha hb h h1
        go_enter Try.func12, Try.ntmps12
        go_wp2
        go_ret2
        exact ⟨rfl, rfl⟩
theorem floor_no (a b : Int) (w : World) (h : b = 0 ∨ (a = -9223372036854775808 ∧ b = -1)) :
    Calls Try.prog 18 #[.int .i64 a, .int .i64 b] w fun e w' => e = .returned (.tuple #[.int .i64 0, .int .i64 0, .bool false]) ∧ w = w' := by
  rcases h with rfl | ⟨rfl, rfl⟩
  all_goals
    go_enter Try.func18, Try.ntmps18
    go_wp2
    go_ret3
    exact ⟨rfl, rfl⟩
theorem floor_any (a b : Int) (w : World) (ha : I64 a) (hb : I64 b) (hb0 : b ≠ 0) (hn : ¬ (a = -9223372036854775808 ∧ b = -1)) :
    Calls Try.prog 18 #[.int .i64 a, .int .i64 b] w fun e w' => e = .returned (.tuple #[.int .i64 (a.fdiv b), .int .i64 (a.fmod b), .bool true]) ∧ ∃ n, w' = w.drewN n := by
  have e0 : (b == 0) = false := by simpa using hb0
  by_cases h1 : b = -1
  · have e1 : (b == -1) = true := by simpa using h1
    have e2 : (a == -9223372036854775808) = false := by simp; omega
    have hf : a.fdiv b = -a ∧ a.fmod b = 0 := by subst h1; have := @fdiv_like a (-1) (by omega) (Or.inl (by simp)); simp at this; omega
    rw [hf.1, hf.2]
    have hi : I64 (-a) := by unfold I64 at *; omega
    have H := hid (wrap_in hi)
    clear hf hi ha hn
    go_enter Try.func18, Try.ntmps18
    go_wp2
    go_quiet (fail)
    go_wp2
    go_ret3
    exact ⟨ret_3 H.out rfl rfl, _, rfl⟩
  · have e1 : (b == -1) = false := by simpa using h1
    have H0 := hid hb0
    have H1 := hid hn
    rcases Bool.eq_false_or_eq_true (a == -9223372036854775808) with hm | hm
    all_goals
      clear hn h1
      go_enter Try.func18, Try.ntmps18
      go_wp2
      go_quiet (fail)
      go_wp2
      all_goals
        go_ret3
        first
          | exact ⟨ret_3 (floor_w1 ha H0.out H1.out ‹_›).1 (floor_w1 ha H0.out H1.out ‹_›).2 rfl, _, rfl⟩
          | exact ⟨ret_3 (floor_w2 ha hb H0.out H1.out ‹_› ‹_›).1 (floor_w2 ha hb H0.out H1.out ‹_› ‹_›).2 rfl, _, rfl⟩
          | exact ⟨ret_3 (floor_w3 ha H0.out H1.out ‹_› ‹_›).1 (floor_w3 ha H0.out H1.out ‹_› ‹_›).2 rfl, _, rfl⟩
end Go.Proofs.Ytgbpginecahieaa.Ex

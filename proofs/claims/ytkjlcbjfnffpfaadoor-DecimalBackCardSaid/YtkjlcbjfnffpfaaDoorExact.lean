/- What each call of package exact answers, for all numbers of 64 bits: contracts over the walked program. -/
import Derived.Test.YtkjlcbjfnffpfaaDoorRows
import Derived.Test.YtkjlcbjfnffpfaaDoorPure
import Derived.WalkKit
import Derived.ProofKit
import Derived.BigQuiet
import Derived.Deep.QuietTactic
namespace Go.Proofs.YtkjlcbjfnffpfaaDoor.Ex
open Go.RowKit P

theorem ret_2 {k : IntKind} {a b : Int} {p q : Bool} (h : a = b) (h' : p = q) : Ending.returned (.tuple #[.int k a, .bool p]) = .returned (.tuple #[.int k b, .bool q]) := by rw [h, h']
theorem ret_3 {k l : IntKind} {a b c d : Int} {p q : Bool} (h : a = b) (h1 : c = d) (h' : p = q) : Ending.returned (.tuple #[.int k a, .int l c, .bool p]) = .returned (.tuple #[.int k b, .int l d, .bool q]) := by rw [h, h1, h']

theorem add_yes (a b : Int) (w : World) (h : I64 (a + b)) :
    Calls Tryd.prog 25 #[.int .i64 a, .int .i64 b] w fun e w' => e = .returned (.tuple #[.int .i64 (a + b), .bool true]) ∧ w = w' := by
  have ht := add_test_yes h
  have H := hid (wrap_in h)
  clear h
  go_enter Tryd.func25, Tryd.ntmps25
  go_wp2
  go_ret2
  exact ⟨ret_2 H.out rfl, rfl⟩
theorem add_no (a b : Int) (w : World) (ha : I64 a) (hb : I64 b) (h : ¬ I64 (a + b)) :
    Calls Tryd.prog 25 #[.int .i64 a, .int .i64 b] w fun e w' => e = .returned (.tuple #[.int .i64 0, .bool false]) ∧ w = w' := by
  have ht := add_test_no ha hb h
  clear ha hb h
  go_enter Tryd.func25, Tryd.ntmps25
  go_wp2
  go_ret2
  exact ⟨rfl, rfl⟩
theorem add_any (a b : Int) (w : World) (ha : I64 a) (hb : I64 b) :
    Calls Tryd.prog 25 #[.int .i64 a, .int .i64 b] w fun e w' => e = .returned (.tuple #[.int .i64 (cut64 (a + b)), .bool (ok64 (a + b))]) ∧ w = w' := by
  by_cases h : I64 (a + b)
  · rw [cut64_t h, ok64_t h]; exact add_yes a b w h
  · rw [cut64_f h, ok64_f h]; exact add_no a b w ha hb h
theorem sub_yes (a b : Int) (w : World) (h : I64 (a - b)) :
    Calls Tryd.prog 37 #[.int .i64 a, .int .i64 b] w fun e w' => e = .returned (.tuple #[.int .i64 (a - b), .bool true]) ∧ w = w' := by
  have ht := sub_test_yes h
  have H := hid (wrap_in h)
  clear h
  go_enter Tryd.func37, Tryd.ntmps37
  go_wp2
  go_ret2
  exact ⟨ret_2 H.out rfl, rfl⟩
theorem sub_no (a b : Int) (w : World) (ha : I64 a) (hb : I64 b) (h : ¬ I64 (a - b)) :
    Calls Tryd.prog 37 #[.int .i64 a, .int .i64 b] w fun e w' => e = .returned (.tuple #[.int .i64 0, .bool false]) ∧ w = w' := by
  have ht := sub_test_no ha hb h
  clear ha hb h
  go_enter Tryd.func37, Tryd.ntmps37
  go_wp2
  go_ret2
  exact ⟨rfl, rfl⟩
theorem sub_any (a b : Int) (w : World) (ha : I64 a) (hb : I64 b) :
    Calls Tryd.prog 37 #[.int .i64 a, .int .i64 b] w fun e w' => e = .returned (.tuple #[.int .i64 (cut64 (a - b)), .bool (ok64 (a - b))]) ∧ w = w' := by
  by_cases h : I64 (a - b)
  · rw [cut64_t h, ok64_t h]; exact sub_yes a b w h
  · rw [cut64_f h, ok64_f h]; exact sub_no a b w ha hb h
theorem mul_any (a b : Int) (w : World) (ha : I64 a) (hb : I64 b) :
    Calls Tryd.prog 26 #[.int .i64 a, .int .i64 b] w fun e w' => e = .returned (.tuple #[.int .i64 (cut64 (a * b)), .bool (ok64 (a * b))]) ∧ w = w' := by
  by_cases h0 : a = 0
  · subst h0
    rw [Int.zero_mul, cut64_t i64_0, ok64_t i64_0]
    clear ha hb
    go_enter Tryd.func26, Tryd.ntmps26
    go_wp2
    go_ret2
    exact ⟨rfl, rfl⟩
  · by_cases h1 : a = -1
    · subst h1
      have e : (-1 : Int) * b = -b := by omega
      rw [e]
      clear e h0 ha
      have hb' : Hid (I64 b) := hid hb
      clear hb
      go_enter Tryd.func26, Tryd.ntmps26
      go_wp2_with (go_at_call 37; refine (sub_any _ _ _ i64_0 hb'.out).mono ?_; rintro e w' ⟨rfl, rfl⟩; simp only [Int.zero_sub])
      go_ret2
      exact ⟨rfl, rfl⟩
    · have e0 : (a == 0) = false := by simpa using h0
      have e1 : (a == -1) = false := by simpa using h1
      by_cases h : I64 (a * b)
      · have ht : (wrap64 ((wrap64 (a * b)).tdiv a) != b) = false := by rw [mul_test_yes hb h0 h]; simp
        have H := hid (wrap_in h)
        have H2 := hid h
        clear ha hb h h1
        go_enter Tryd.func26, Tryd.ntmps26
        go_wp2
        go_ret2
        exact ⟨ret_2 (by rw [H.out, cut64_t H2.out]) (by rw [ok64_t H2.out]), rfl⟩
      · have ht : (wrap64 ((wrap64 (a * b)).tdiv a) != b) = true := by
          rcases mul_test_no ha h0 h with h2 | h2
          · simpa using h2
          · exact absurd h2 h1
        rw [cut64_f h, ok64_f h]
        clear ha hb h h1
        go_enter Tryd.func26, Tryd.ntmps26
        go_wp2
        go_ret2
        exact ⟨rfl, rfl⟩
end Go.Proofs.YtkjlcbjfnffpfaaDoor.Ex

/- Layer 1's laws: what they ask first comes out true; and small tools for their walks. -/
import Derived.Test.YtgbpginecahieaaExact
namespace Go.Proofs.Ytgbpginecahieaa.L01
open Go.RowKit P Ex

theorem grown_drewN {W w' : World} (h : Grown W w') (n : Nat) : Grown W (w'.drewN n) := h
theorem alive_any (w : World) :
    Calls Try.prog 9 #[] w fun e w' => e = .returned (.bool true) ∧ ∃ n, w' = w.drewN n := by
  have m1 : cut64 (4294967296 * 2147483648) = 0 := cut64_f (by unfold I64; omega)
  have m2 : ok64 (4294967296 * 2147483648) = false := ok64_f (by unfold I64; omega)
  have M1 := hid m1
  have M2 := hid m2
  clear m1 m2
  go_enter Try.func9, Try.ntmps9
  go_wp2_with (first
    | (go_at_call 12; refine (mul_any _ _ _ (by unfold I64; omega) (by unfold I64; omega)).mono ?_; rintro e w' ⟨rfl, rfl⟩; rw [M1.out, M2.out])
    | (go_at_call 18; refine (floor_any _ _ _ (by unfold I64; omega) (by unfold I64; omega) (by omega) (by omega)).mono ?_; rintro e w' ⟨rfl, n, rfl⟩; rw [show (-7 : Int).fdiv 2 = -4 from rfl, show (-7 : Int).fmod 2 = 1 from rfl])
    | (go_at_call 10; refine (add_yes _ _ _ (by unfold I64; omega)).mono ?_; rintro e w' ⟨rfl, rfl⟩))
  go_ret
  exact ⟨rfl, _, rfl⟩
end Go.Proofs.Ytgbpginecahieaa.L01

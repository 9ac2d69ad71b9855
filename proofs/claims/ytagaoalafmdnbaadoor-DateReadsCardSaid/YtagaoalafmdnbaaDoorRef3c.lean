/- What the document's answers for layer 3 (poundageref03) come to: Number, Of. -/
import Derived.Test.YtagaoalafmdnbaaDoorRef3b
namespace Go.Proofs.YtagaoalafmdnbaaDoor.R3
open Go.RowKit Go.Sort P Dt

theorem below_on {w W w' : World} (h : Below w.heap.size w W) (hb : Below W.heap.size W w') : Below w.heap.size w w' := h.trans (hb.mono h.size)
set_option maxHeartbeats 1000000 in
theorem number_any (y m d : Int) (w : World) (g : good y m d = true) :
    Calls Tryd.prog 19 #[dv y m d] w fun e w' => e = .returned (.int .i64 (num y m d)) ∧ Below w.heap.size w w' := by
  unfold dv
  obtain ⟨h0, h1, h2, h3, h4, h5⟩ := good_iff.1 g
  have hd := days_bound y m
  have L : Lies3 (w.alloc (.cells #[.int .i64 y, .int .i64 m, .int .i64 d] 23)) w.heap.size (.int .i64 y) (.int .i64 m) (.int .i64 d) := Lies3.new rfl
  go_enter Tryd.func19, Tryd.ntmps19
  go_wp2
  go_loopw [3, 4] (fun n k wr => ∃ k' : Int, k = .int .i64 k' ∧ n = .int .i64 (d - 1 + mon y k') ∧ 1 ≤ k' ∧ k' ≤ m ∧ Lies3 wr w.heap.size (.int .i64 y) (.int .i64 m) (.int .i64 d) ∧ Below w.heap.size w wr) (fun _ k _ => (m - intOf k).toNat)
  case atStart => exact ⟨1, rfl, by rw [mon_1]; simp, by omega, h2, L, (Below.refl _ _).alloc (Nat.le_refl _) _⟩
  case round =>
    obtain ⟨k', rfl, rfl, k0, k1, L', hb⟩ := hrel
    have L2 := L'
    obtain ⟨l, c0, c1, c2, f0, f1, f2⟩ := L2
    have hm := mon_bound (y := y) k0 (by omega)
    have hk := days_bound y k'
    by_cases hlt : k' < m
    · have hs := mon_step (y := y) k0 (by omega)
      go_wp2_with (go_at_call 13; refine (days_any _ _ _).mono ?_; rintro e w2 ⟨rfl, b2⟩; have L3 := L'.on b2; have hb2 := below_on hb b2)
      go_roundw
      case rel => exact ⟨k' + 1, rfl, by rw [hs, Int.add_assoc], by omega, by omega, L3, hb2⟩
      case measure => simp [intOf]; omega
    · obtain rfl : k' = m := by omega
      go_wp2
      go_loop [3, 5] (fun n z => ∃ z' : Int, z = .int .i64 z' ∧ n = .int .i64 (d - 1 + mon y k' + yrs z') ∧ 1 ≤ z' ∧ z' ≤ y) (fun _ z => (y - intOf z).toNat)
      case atStart => exact ⟨1, rfl, by rw [yrs_1]; simp, by omega, h0⟩
      case round =>
        obtain ⟨z', rfl, rfl, z0, z1⟩ := hrel
        have hy := yrs_bound (y := z') z0 (by omega)
        by_cases hlt2 : z' < y
        · have hst := yrs_step z'
          cases hl : leap z'
          · rw [lp_no hl] at hst
            go_wp2_with (go_at_call 11; refine (leap_any _ _).mono ?_; rintro e w' ⟨rfl, h'⟩; rw [h'])
            go_round
            case rel => exact ⟨z' + 1, rfl, by rw [hst]; congr 1; omega, by omega, by omega⟩
            case measure => simp [intOf]; omega
          · rw [lp_yes hl] at hst
            go_wp2_with (go_at_call 11; refine (leap_any _ _).mono ?_; rintro e w' ⟨rfl, h'⟩; rw [h'])
            go_round
            case rel => exact ⟨z' + 1, rfl, by rw [hst]; congr 1; omega, by omega, by omega⟩
            case measure => simp [intOf]; omega
        · obtain rfl : z' = y := by omega
          go_wp2
          go_ret
          exact ⟨ret_i (by unfold num; omega), hb⟩
end Go.Proofs.YtagaoalafmdnbaaDoor.R3

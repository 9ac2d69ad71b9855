/- Layer 2's laws return true: RoundIs, RoundOrder, RoundTurned. -/
import Derived.Test.YtpmibknabckboaaPureS
import Derived.Test.YtpmibknabckboaaRound
import Derived.Test.YtpmibknabckboaaRef2d
namespace Go.Proofs.Ytpmibknabckboaa.L02
open Go.RowKit P Ex Rd

theorem alive_any (w : World) :
    Calls Try.prog 9 #[] w fun e w' => e = .returned (.bool true) ∧ ∃ n, w' = w.drewN n := by
  have m1 : Hid (mdn (-7 * 1) 2 0 = -4) := by show _ = _; decide
  have m2 : Hid (mdb (-7 * 1) 2 0 = true) := by show _ = _; decide
  have m3 : Hid (mdn (-7 * 1) 2 2 = -3) := by show _ = _; decide
  have m4 : Hid (mdb (-7 * 1) 2 2 = true) := by show _ = _; decide
  go_enter Try.func9, Try.ntmps9
  go_wp2_with fail
  refine (Rd.muldiv_any _ _ _ _ _ (by unfold I64; omega) (by unfold I64; omega) (by unfold I64; omega)).mono ?_; rintro e w1 ⟨rfl, n1, rfl⟩; rw [m1.out, m2.out]
  go_wp2_with fail
  refine (Rd.muldiv_any _ _ _ _ _ (by unfold I64; omega) (by unfold I64; omega) (by unfold I64; omega)).mono ?_; rintro e w1 ⟨rfl, n2, rfl⟩; rw [m3.out, m4.out]
  go_wp2_with fail
  refine (good_any _ _).mono ?_; rintro e w1 ⟨rfl, rfl⟩; rw [good3]
  go_wp2
  go_ret
  exact ⟨rfl, _, rfl⟩
set_option maxHeartbeats 1000000 in
theorem is_walk (a : Int) (wa : (Lit.int .i64 a).wf = true) (b : Int) (wb : (Lit.int .i64 b).wf = true) (c : Int) (wc : (Lit.int .i64 c).wf = true) (mode : Int) (_wm : (Lit.int .i64 mode).wf = true) (w : World) :
    Calls Try.prog 3 #[.int .i64 a, .int .i64 b, .int .i64 c, .int .i64 mode] w fun e w' => e = .returned (.bool true) ∧ Below w.heap.size w w' := by
  have HA := hid (i64_of_wf wa)
  have HB := hid (i64_of_wf wb)
  have HC := hid (i64_of_wf wc)
  have H1 : Hid (I64 1) := by show I64 1; unfold I64; omega
  have E1 : Hid (a * 1 = a) := Int.mul_one a
  clear wa wb wc
  rcases Bool.eq_false_or_eq_true (decide (0 ≤ mode)) with g1 | g1 <;> rcases Bool.eq_false_or_eq_true (decide (mode ≤ 3)) with g2 | g2
  all_goals
    have HG : Hid (goodm mode = (decide (0 ≤ mode) && decide (mode ≤ 3))) := rfl
    go_enter Try.func3, Try.ntmps3
    go_wp2_with fail
    refine (alive_any _).mono ?_; rintro e w0 ⟨rfl, n, rfl⟩
    go_wp2_with fail
    refine (Rd.muldiv_any a b c mode _ HA.out HB.out HC.out).mono ?_; rintro e w1 ⟨rfl, n1, rfl⟩
    have B1 : Hid (Below w.heap.size w (w.drewN (n + n1))) := below_drewN (Below.refl _ _) _
    go_wp2_with fail
    refine (R2.muldiv_any a b c mode _ HA.out HB.out HC.out).mono ?_; rintro e w2 ⟨rfl, hb⟩
    have B2 : Hid (Below w.heap.size w w2) := R2.below_on B1.out hb
    clear hb B1
    go_wp2_with fail
    refine (div_any a c mode _ HA.out HC.out).mono ?_; rintro e w3 ⟨rfl, n3, rfl⟩
    have B3 : Hid (Below w.heap.size w (w2.drewN n3)) := below_drewN B2.out _
    clear B2
    go_wp2_with fail
    refine (R2.muldiv_any a 1 c mode _ HA.out H1.out HC.out).mono ?_; rintro e w4 ⟨rfl, hb⟩; rw [E1.out]
    have B4 : Hid (Below w.heap.size w w4) := R2.below_on B3.out hb
    clear hb B3
    go_wp2_with fail
    refine (good_any _ _).mono ?_; rintro e w1 ⟨rfl, rfl⟩; rw [HG.out, g1, g2]
    go_wp2
    go_ret
    exact ⟨rfl, B4.out⟩
set_option maxHeartbeats 1000000 in
theorem order_walk (a : Int) (wa : (Lit.int .i64 a).wf = true) (b : Int) (wb : (Lit.int .i64 b).wf = true) (c : Int) (wc : (Lit.int .i64 c).wf = true) (mode : Int) (_wm : (Lit.int .i64 mode).wf = true) (w : World) :
    Calls Try.prog 5 #[.int .i64 a, .int .i64 b, .int .i64 c, .int .i64 mode] w fun e w' => e = .returned (.bool true) ∧ Below w.heap.size w w' := by
  have HA := hid (i64_of_wf wa)
  have HB := hid (i64_of_wf wb)
  have HC := hid (i64_of_wf wc)
  clear wa wb wc
  by_cases h : b < a
  · go_enter Try.func5, Try.ntmps5
    go_wp2_with fail
    refine (alive_any _).mono ?_; rintro e w0 ⟨rfl, n, rfl⟩
    go_wp2
    go_ret
    exact ⟨rfl, below_drewN (Below.refl _ _) _⟩
  · have hm := md_mono (c := c) (mode := mode) HA.out HB.out (by omega)
    have E := hid hm.1
    have hl := hm.2
    clear hm
    rcases Bool.eq_false_or_eq_true (mdb a c mode) with g | g
    all_goals
      have G := hid g
      try have hl2 := hl g
      clear hl g
      go_enter Try.func5, Try.ntmps5
      go_wp2_with fail
      refine (alive_any _).mono ?_; rintro e w0 ⟨rfl, n, rfl⟩
      go_wp2_with fail
      refine (div_any a c mode _ HA.out HC.out).mono ?_; rintro e w3 ⟨rfl, n3, rfl⟩; rw [G.out]
      go_wp2_with fail
      refine (div_any b c mode _ HB.out HC.out).mono ?_; rintro e w3 ⟨rfl, n4, rfl⟩; rw [← E.out, G.out]
      go_wp2
      go_ret
      exact ⟨rfl, below_drewN (Below.refl _ _) _⟩
set_option maxHeartbeats 1000000 in
theorem turned_walk (a : Int) (wa : (Lit.int .i64 a).wf = true) (b : Int) (wb : (Lit.int .i64 b).wf = true) (c : Int) (wc : (Lit.int .i64 c).wf = true) (w : World) :
    Calls Try.prog 8 #[.int .i64 a, .int .i64 b, .int .i64 c] w fun e w' => e = .returned (.bool true) ∧ Below w.heap.size w w' := by
  have ha := i64_of_wf wa
  have HB := hid (i64_of_wf wb)
  have HC := hid (i64_of_wf wc)
  clear wa wb wc
  rcases Bool.eq_false_or_eq_true (a == -9223372036854775808) with h | h
  · clear ha
    go_enter Try.func8, Try.ntmps8
    go_wp2_with fail
    refine (alive_any _).mono ?_; rintro e w0 ⟨rfl, n, rfl⟩
    go_wp2
    go_ret
    exact ⟨rfl, below_drewN (Below.refl _ _) _⟩
  · have hn : I64 (-a) := by unfold I64 at *; simp at h; omega
    have HA := hid ha
    have HN := hid hn
    have EN := hid (wrap_in hn)
    have f0 := fun h1 h2 => turned_md (p := a * b) (c := c) 0 1 good0 good1 turned_floor h1 h2
    have f3 := fun h1 h2 => turned_md (p := a * b) (c := c) 3 3 good3 good3 turned_even h1 h2
    clear ha hn
    obtain ⟨p, hp⟩ : ∃ p, a * b = p := ⟨_, rfl⟩
    have EP := hid hp
    have EM : Hid (-a * b = -p) := by show _ = _; rw [Int.neg_mul, hp]
    rw [hp] at f0 f3
    clear hp
    generalize hx0 : mdn p c 0 = x0 at *
    generalize hx1 : mdn (-p) c 1 = x1 at *
    generalize hx3 : mdn p c 3 = x3 at *
    generalize hx4 : mdn (-p) c 3 = x4 at *
    generalize hy0 : mdb p c 0 = y0 at *
    generalize hy1 : mdb (-p) c 1 = y1 at *
    generalize hy3 : mdb p c 3 = y3 at *
    generalize hy4 : mdb (-p) c 3 = y4 at *
    have t0 : y0 = true → y1 = true → (x0 == wrap64 (-x1)) = true := fun u v => by rw [wrap_in (f0 u v).1, (f0 u v).2]; simp
    have t3 : y3 = true → y4 = true → (x3 == wrap64 (-x4)) = true := fun u v => by rw [wrap_in (f3 u v).1, (f3 u v).2]; simp
    have X0 := hid hx0
    have X1 := hid hx1
    have X3 := hid hx3
    have X4 := hid hx4
    have Y0 := hid hy0
    have Y1 := hid hy1
    have Y3 := hid hy3
    have Y4 := hid hy4
    clear f0 f3 hx0 hx1 hx3 hx4 hy0 hy1 hy3 hy4
    cases y0 <;> cases y1 <;> cases y3 <;> cases y4
    all_goals
      try have u0 := t0 rfl rfl
      try have u3 := t3 rfl rfl
      clear t0 t3
      go_enter Try.func8, Try.ntmps8
      go_wp2_with fail
      refine (alive_any _).mono ?_; rintro e w0 ⟨rfl, n, rfl⟩
      go_wp2_with fail
      refine (Rd.muldiv_any a b c 0 _ HA.out HB.out HC.out).mono ?_; rintro e w1 ⟨rfl, n1, rfl⟩; rw [EP.out, X0.out, Y0.out]
      go_wp2_with fail
      rw [EN.out]
      refine (Rd.muldiv_any (-a) b c 1 _ HN.out HB.out HC.out).mono ?_; rintro e w1 ⟨rfl, n2, rfl⟩; rw [EM.out, X1.out, Y1.out]
      go_wp2_with fail
      refine (Rd.muldiv_any a b c 3 _ HA.out HB.out HC.out).mono ?_; rintro e w1 ⟨rfl, n3, rfl⟩; rw [EP.out, X3.out, Y3.out]
      go_wp2_with fail
      first | rw [EN.out] | skip
      refine (Rd.muldiv_any (-a) b c 3 _ HN.out HB.out HC.out).mono ?_; rintro e w1 ⟨rfl, n4, rfl⟩; rw [EM.out, X4.out, Y4.out]
      go_wp2
      go_ret
      exact ⟨rfl, below_drewN (Below.refl _ _) _⟩
end Go.Proofs.Ytpmibknabckboaa.L02

/- Layer 1's laws that hold package exact against wide numbers: ExactIs, ExactDivides: the law's body returns true. -/
import Derived.Test.YtgbpginecahieaaL01Alive
import Derived.Test.YtgbpginecahieaaRef1L
namespace Go.Proofs.Ytgbpginecahieaa.L01
open Go.RowKit P Ex R1

/-- What is told of a number beyond 64 bits, and of one within: a case each. -/
theorem cut_case (v : Int) : (ok64 v = true ∧ (cut64 v == 0) = (cut64 v == 0)) ∨ (ok64 v = false ∧ (cut64 v == 0) = true) := by
  by_cases h : I64 v
  · exact Or.inl ⟨ok64_t h, rfl⟩
  · exact Or.inr ⟨ok64_f h, by rw [cut64_f h]; rfl⟩
set_option maxHeartbeats 1000000 in
theorem is_walk (a : Int) (wa : (Lit.int .i64 a).wf = true) (b : Int) (wb : (Lit.int .i64 b).wf = true) (w : World) :
    Calls Try.prog 3 #[.int .i64 a, .int .i64 b] w fun e w' => e = .returned (.bool true) ∧ Below w.heap.size w w' := by
  have HA := hid (i64_of_wf wa)
  have HB := hid (i64_of_wf wb)
  have E : Hid (a + -b = a - b) := by show _ = _; omega
  clear wa wb
  rcases cut_case (a + b) with ⟨u1, u2⟩ | ⟨u1, u2⟩ <;> rcases cut_case (a - b) with ⟨v1, v2⟩ | ⟨v1, v2⟩ <;> rcases cut_case (a * b) with ⟨z1, z2⟩ | ⟨z1, z2⟩
  all_goals
    have U1 := hid u1
    have U2 := hid u2
    have V1 := hid v1
    have V2 := hid v2
    have Z1 := hid z1
    have Z2 := hid z2
    clear u1 u2 v1 v2 z1 z2
    go_enter Try.func3, Try.ntmps3
    go_wp2_with fail
    refine (alive_any _).mono ?_; rintro e w0 ⟨rfl, n, rfl⟩
    go_wp2_with fail
    refine (Ex.add_any _ _ _ HA.out HB.out).mono ?_; rintro e w1 ⟨rfl, rfl⟩; rw [U1.out]
    go_wp2_with fail
    refine (sub_any _ _ _ HA.out HB.out).mono ?_; rintro e w1 ⟨rfl, rfl⟩; rw [V1.out]
    go_wp2_with fail
    refine (Ex.mul_any _ _ _ HA.out HB.out).mono ?_; rintro e w1 ⟨rfl, rfl⟩; rw [Z1.out]
    have B2 : Hid (Below w.heap.size w (w.drewN n)) := below_drewN (Below.refl _ _) _
    go_wp2_with fail
    refine (of_any _ _ HA.out).mono ?_; rintro e w3 ⟨rfl, hb⟩
    have B3 : Hid (Below w.heap.size w w3) := below_via B2.out hb (Below.size B2.out)
    clear hb B2
    go_wp2_with fail
    refine (of_any _ _ HB.out).mono ?_; rintro e w4 ⟨rfl, hb⟩
    have B4 : Hid (Below w.heap.size w w4) := below_via B3.out hb (Below.size B3.out)
    clear hb B3
    go_wp2_with fail
    refine (R1.add_any _ _ _ (small127 HA.out) (small127 HB.out)).mono ?_; rintro e w5 ⟨rfl, hb⟩
    have B5 : Hid (Below w.heap.size w w5) := below_via B4.out hb (Below.size B4.out)
    clear hb B4
    go_wp2_with fail
    refine (int_any _ _).mono ?_; rintro e w6 ⟨rfl, hb⟩; rw [U1.out]
    have B6 : Hid (Below w.heap.size w w6) := below_via B5.out hb (Below.size B5.out)
    clear hb B5
    go_wp2_with fail
    refine (of_any _ _ HA.out).mono ?_; rintro e w7 ⟨rfl, hb⟩
    have B7 : Hid (Below w.heap.size w w7) := below_via B6.out hb (Below.size B6.out)
    clear hb B6
    go_wp2_with fail
    refine (of_any _ _ HB.out).mono ?_; rintro e w8 ⟨rfl, hb⟩
    have B8 : Hid (Below w.heap.size w w8) := below_via B7.out hb (Below.size B7.out)
    clear hb B7
    go_wp2_with fail
    refine (opposite_any _ _).mono ?_; rintro e w9 ⟨rfl, hb⟩
    have B9 : Hid (Below w.heap.size w w9) := below_via B8.out hb (Below.size B8.out)
    clear hb B8
    go_wp2_with fail
    refine (R1.add_any _ _ _ (small127 HA.out) (by rw [Int.natAbs_neg]; exact small127 HB.out)).mono ?_; rintro e w10 ⟨rfl, hb⟩; rw [E.out]
    have B10 : Hid (Below w.heap.size w w10) := below_via B9.out hb (Below.size B9.out)
    clear hb B9
    go_wp2_with fail
    refine (int_any _ _).mono ?_; rintro e w11 ⟨rfl, hb⟩; rw [V1.out]
    have B11 : Hid (Below w.heap.size w w11) := below_via B10.out hb (Below.size B10.out)
    clear hb B10
    go_wp2_with fail
    refine (R1.mul_any _ _ _ HA.out HB.out).mono ?_; rintro e w12 ⟨rfl, hb⟩
    have B12 : Hid (Below w.heap.size w w12) := below_via B11.out hb (Below.size B11.out)
    clear hb B11
    go_wp2_with fail
    refine (int_any _ _).mono ?_; rintro e w13 ⟨rfl, hb⟩; rw [Z1.out]
    have B13 : Hid (Below w.heap.size w w13) := below_via B12.out hb (Below.size B12.out)
    clear hb B12
    have u2 := U2.out
    have v2 := V2.out
    have z2 := Z2.out
    go_wp2
    go_ret
    exact ⟨rfl, B13.out⟩
set_option maxHeartbeats 1000000 in
theorem divides_walk (a : Int) (wa : (Lit.int .i64 a).wf = true) (b : Int) (wb : (Lit.int .i64 b).wf = true) (w : World) :
    Calls Try.prog 4 #[.int .i64 a, .int .i64 b] w fun e w' => e = .returned (.bool true) ∧ Below w.heap.size w w' := by
  have ha := i64_of_wf wa
  have hb := i64_of_wf wb
  clear wa wb
  by_cases hno : b = 0 ∨ (a = -9223372036854775808 ∧ b = -1)
  · rcases hno with rfl | ⟨rfl, rfl⟩
    all_goals
      clear ha hb
      go_enter Try.func4, Try.ntmps4
      go_wp2_with fail
      refine (alive_any _).mono ?_; rintro e w0 ⟨rfl, n, rfl⟩
      go_wp2_with fail
      refine (floor_no _ _ _ (by omega)).mono ?_; rintro e w1 ⟨rfl, rfl⟩
      go_wp2
      go_ret
      exact ⟨rfl, below_drewN (Below.refl _ _) _⟩
  · have h0 : b ≠ 0 := fun h => hno (Or.inl h)
    have hn : ¬ (a = -9223372036854775808 ∧ b = -1) := fun h => hno (Or.inr h)
    have e0 : (b == 0) = false := by simpa using h0
    have HQ : I64 (a.fdiv b) ∧ I64 (a.fmod b) := floor_i64 ha hb h0 hn
    have HQ1 := hid HQ.1
    have HQ2 := hid HQ.2
    have E1 : Hid (a.fdiv b * b + a.fmod b = a) := by show _ = _; have := Int.fmod_add_mul_fdiv a b; rw [Int.mul_comm]; omega
    have S1 : Hid ((a.fdiv b * b).natAbs < two127) := prod_lt' HQ.1 hb
    have C1 : Hid (cut64 a = a) := cut64_t ha
    have C2 : Hid (ok64 a = true) := ok64_t ha
    have H0 := hid h0
    have HN := hid hn
    have HA := hid ha
    have HB := hid hb
    by_cases hp : 0 < b
    · have hr := @fmod_pos a b hp
      have r1 : decide (a.fmod b < 0) = false := by simp; omega
      have r2 : decide (b ≤ a.fmod b) = false := by simp; omega
      have r3 : decide (b < 0) = false := by simp; omega
      have r4 : decide (0 < b) = true := by simp; omega
      have r5 : (b == -1) = false := by simp; omega
      clear hr hp
      rcases Bool.eq_false_or_eq_true (a == -9223372036854775808) with r6 | r6
      all_goals
        clear HQ ha hb h0 hn hno
        go_enter Try.func4, Try.ntmps4
        go_wp2_with fail
        refine (alive_any _).mono ?_; rintro e w0 ⟨rfl, n, rfl⟩
        go_wp2_with fail
        refine (floor_any _ _ _ HA.out HB.out H0.out HN.out).mono ?_; rintro e w1 ⟨rfl, m, rfl⟩
        have B2 : Hid (Below w.heap.size w (w.drewN (n + m))) := below_drewN (Below.refl _ _) _
        go_wp2_with fail
        refine (R1.mul_any _ _ _ HQ1.out HB.out).mono ?_; rintro e w3 ⟨rfl, hb⟩
        have B3 : Hid (Below w.heap.size w w3) := below_via B2.out hb (Below.size B2.out)
        clear hb B2
        go_wp2_with fail
        refine (of_any _ _ HQ2.out).mono ?_; rintro e w4 ⟨rfl, hb⟩
        have B4 : Hid (Below w.heap.size w w4) := below_via B3.out hb (Below.size B3.out)
        clear hb B3
        go_wp2_with fail
        refine (R1.add_any _ _ _ S1.out (small127 HQ2.out)).mono ?_; rintro e w5 ⟨rfl, hb⟩; rw [E1.out]
        have B5 : Hid (Below w.heap.size w w5) := below_via B4.out hb (Below.size B4.out)
        clear hb B4
        go_wp2_with fail
        refine (int_any _ _).mono ?_; rintro e w6 ⟨rfl, hb⟩; rw [C1.out, C2.out]
        have B6 : Hid (Below w.heap.size w w6) := below_via B5.out hb (Below.size B5.out)
        clear hb B5
        go_wp2
        go_ret
        exact ⟨rfl, B6.out⟩
    · have hb0 : b < 0 := by omega
      have hr := @fmod_neg a b hb0
      have r1 : decide (0 < a.fmod b) = false := by simp; omega
      have r2 : decide (a.fmod b ≤ b) = false := by simp; omega
      have r3 : decide (b < 0) = true := by simp; omega
      have r4 : decide (0 < b) = false := by simp; omega
      clear hr hp hb0
      by_cases h1 : b = -1
      · have r5 : (b == -1) = true := by simpa using h1
        have r6 : (a == -9223372036854775808) = false := by simp; exact fun h => HN.out ⟨h, h1⟩
        clear HQ ha hb h0 hn hno h1
        go_enter Try.func4, Try.ntmps4
        go_wp2_with fail
        refine (alive_any _).mono ?_; rintro e w0 ⟨rfl, n, rfl⟩
        go_wp2_with fail
        refine (floor_any _ _ _ HA.out HB.out H0.out HN.out).mono ?_; rintro e w1 ⟨rfl, m, rfl⟩
        have B2 : Hid (Below w.heap.size w (w.drewN (n + m))) := below_drewN (Below.refl _ _) _
        go_wp2_with fail
        refine (R1.mul_any _ _ _ HQ1.out HB.out).mono ?_; rintro e w3 ⟨rfl, hb⟩
        have B3 : Hid (Below w.heap.size w w3) := below_via B2.out hb (Below.size B2.out)
        clear hb B2
        go_wp2_with fail
        refine (of_any _ _ HQ2.out).mono ?_; rintro e w4 ⟨rfl, hb⟩
        have B4 : Hid (Below w.heap.size w w4) := below_via B3.out hb (Below.size B3.out)
        clear hb B3
        go_wp2_with fail
        refine (R1.add_any _ _ _ S1.out (small127 HQ2.out)).mono ?_; rintro e w5 ⟨rfl, hb⟩; rw [E1.out]
        have B5 : Hid (Below w.heap.size w w5) := below_via B4.out hb (Below.size B4.out)
        clear hb B4
        go_wp2_with fail
        refine (int_any _ _).mono ?_; rintro e w6 ⟨rfl, hb⟩; rw [C1.out, C2.out]
        have B6 : Hid (Below w.heap.size w w6) := below_via B5.out hb (Below.size B5.out)
        clear hb B5
        go_wp2
        go_ret
        exact ⟨rfl, B6.out⟩
      · have r5 : (b == -1) = false := by simpa using h1
        rcases Bool.eq_false_or_eq_true (a == -9223372036854775808) with r6 | r6
        all_goals
          clear HQ ha hb h0 hn hno h1
          go_enter Try.func4, Try.ntmps4
          go_wp2_with fail
          refine (alive_any _).mono ?_; rintro e w0 ⟨rfl, n, rfl⟩
          go_wp2_with fail
          refine (floor_any _ _ _ HA.out HB.out H0.out HN.out).mono ?_; rintro e w1 ⟨rfl, m, rfl⟩
          have B2 : Hid (Below w.heap.size w (w.drewN (n + m))) := below_drewN (Below.refl _ _) _
          go_wp2_with fail
          refine (R1.mul_any _ _ _ HQ1.out HB.out).mono ?_; rintro e w3 ⟨rfl, hb⟩
          have B3 : Hid (Below w.heap.size w w3) := below_via B2.out hb (Below.size B2.out)
          clear hb B2
          go_wp2_with fail
          refine (of_any _ _ HQ2.out).mono ?_; rintro e w4 ⟨rfl, hb⟩
          have B4 : Hid (Below w.heap.size w w4) := below_via B3.out hb (Below.size B3.out)
          clear hb B3
          go_wp2_with fail
          refine (R1.add_any _ _ _ S1.out (small127 HQ2.out)).mono ?_; rintro e w5 ⟨rfl, hb⟩; rw [E1.out]
          have B5 : Hid (Below w.heap.size w w5) := below_via B4.out hb (Below.size B4.out)
          clear hb B4
          go_wp2_with fail
          refine (int_any _ _).mono ?_; rintro e w6 ⟨rfl, hb⟩; rw [C1.out, C2.out]
          have B6 : Hid (Below w.heap.size w w6) := below_via B5.out hb (Below.size B5.out)
          clear hb B5
          go_wp2
          go_ret
          exact ⟨rfl, B6.out⟩
end Go.Proofs.Ytgbpginecahieaa.L01

/- Layer 2's laws return true: RoundUps, RoundModes, RoundNear. -/
import Derived.Test.YtpmibknabckboaaL02
namespace Go.Proofs.Ytpmibknabckboaa.L02
open Go.RowKit P Ex Rd R1

set_option maxHeartbeats 1000000 in
theorem ups_walk (a : Int) (wa : (Lit.int .i64 a).wf = true) (c : Int) (wc : (Lit.int .i64 c).wf = true) (w : World) :
    Calls Try.prog 6 #[.int .i64 a, .int .i64 c] w fun e w' => e = .returned (.bool true) ∧ Below w.heap.size w w' := by
  have HA := hid (i64_of_wf wa)
  have HC := hid (i64_of_wf wc)
  clear wa wc
  by_cases hc : c ≤ 0
  · have e0 : decide (c ≤ 0) = true := by simpa using hc
    have U1 : Hid (upb a c = false) := by show _ = _; unfold upb; rw [mdb_c hc]; rfl
    have U2 : Hid (upn a c = 0) := by show _ = _; unfold upn; rw [mdb_c hc]; rfl
    clear hc
    go_enter Try.func6, Try.ntmps6
    go_wp2_with fail
    refine (alive_any _).mono ?_; rintro e w0 ⟨rfl, n, rfl⟩
    go_wp2_with fail
    refine (up_any a c _ HA.out HC.out).mono ?_; rintro e w1 ⟨rfl, n1, rfl⟩; rw [U1.out, U2.out]
    go_wp2
    go_ret
    exact ⟨rfl, below_drewN (Below.refl _ _) _⟩
  · have hc0 : 0 < c := by omega
    have e0 : decide (c ≤ 0) = false := by simpa using hc
    have hm := mdb_i64 (mode := 1) HA.out hc0 good1
    have hq := rnd_i64 (mode := 1) HA.out hc0 good1
    have hf := up_facts (a := a) hc0
    obtain ⟨q, hqq⟩ : ∃ q, rnd a c 1 = q := ⟨_, rfl⟩
    rw [hqq] at hm hq hf
    have M1 := hid hm.1
    have M2 := hid hm.2
    have HQ := hid hq
    have E1 : Hid (a * 1 = a) := Int.mul_one a
    have H1 : Hid (I64 1) := by show I64 1; unfold I64; omega
    have U1 : Hid (upb a c = ok64 (q * c)) := by show _ = _; unfold upb; rw [hm.1, hm.2]; rfl
    have U2 : Hid (upn a c = cut64 (q * c)) := by show _ = _; unfold upn; rw [hm.1, hm.2]; rfl
    clear hm hq hqq hc
    by_cases hi : I64 (q * c)
    · have V1 := hid (ok64_t hi)
      have V2 := hid (cut64_t hi)
      obtain ⟨z, hz⟩ : ∃ z, q * c = z := ⟨_, rfl⟩
      rw [hz] at hf
      have hf1 := hf.1
      have hf2 : (z.tmod c == 0) = true := by rw [hf.2]; rfl
      have hc1 : (c == 0) = false := by simp; omega
      have EZ := hid hz
      clear hf hi hz
      go_enter Try.func6, Try.ntmps6
      go_wp2_with fail
      refine (alive_any _).mono ?_; rintro e w0 ⟨rfl, n, rfl⟩
      go_wp2_with fail
      refine (up_any a c _ HA.out HC.out).mono ?_; rintro e w1 ⟨rfl, n1, rfl⟩; rw [U1.out, U2.out, V1.out, V2.out, EZ.out]
      have B1 : Hid (Below w.heap.size w (w.drewN (n + n1))) := below_drewN (Below.refl _ _) _
      go_wp2_with fail
      refine (R2.muldiv_any a 1 c 1 _ HA.out H1.out HC.out).mono ?_; rintro e w2 ⟨rfl, hb⟩; rw [E1.out, M1.out, M2.out]
      have B2 : Hid (Below w.heap.size w w2) := R2.below_on B1.out hb
      clear hb B1
      go_wp2_with fail
      refine (R1.mul_any q c _ HQ.out HC.out).mono ?_; rintro e w3 ⟨rfl, hb⟩
      have B3 : Hid (Below w.heap.size w w3) := R2.below_on B2.out hb
      clear hb B2
      go_wp2_with fail
      refine (int_any _ _).mono ?_; rintro e w4 ⟨rfl, hb⟩; rw [V1.out, V2.out, EZ.out]
      have B4 : Hid (Below w.heap.size w w4) := R2.below_on B3.out hb
      clear hb B3
      go_wp2
      go_ret
      exact ⟨rfl, B4.out⟩
    · have V1 := hid (ok64_f hi)
      have V2 := hid (cut64_f hi)
      clear hf hi
      go_enter Try.func6, Try.ntmps6
      go_wp2_with fail
      refine (alive_any _).mono ?_; rintro e w0 ⟨rfl, n, rfl⟩
      go_wp2_with fail
      refine (up_any a c _ HA.out HC.out).mono ?_; rintro e w1 ⟨rfl, n1, rfl⟩; rw [U1.out, U2.out, V1.out, V2.out]
      have B1 : Hid (Below w.heap.size w (w.drewN (n + n1))) := below_drewN (Below.refl _ _) _
      go_wp2_with fail
      refine (R2.muldiv_any a 1 c 1 _ HA.out H1.out HC.out).mono ?_; rintro e w2 ⟨rfl, hb⟩; rw [E1.out, M1.out, M2.out]
      have B2 : Hid (Below w.heap.size w w2) := R2.below_on B1.out hb
      clear hb B1
      go_wp2_with fail
      refine (R1.mul_any q c _ HQ.out HC.out).mono ?_; rintro e w3 ⟨rfl, hb⟩
      have B3 : Hid (Below w.heap.size w w3) := R2.below_on B2.out hb
      clear hb B2
      go_wp2_with fail
      refine (int_any _ _).mono ?_; rintro e w4 ⟨rfl, hb⟩; rw [V1.out, V2.out]
      have B4 : Hid (Below w.heap.size w w4) := R2.below_on B3.out hb
      clear hb B3
      go_wp2
      go_ret
      exact ⟨rfl, B4.out⟩
set_option maxHeartbeats 4000000 in
theorem modes_walk (a : Int) (wa : (Lit.int .i64 a).wf = true) (b : Int) (wb : (Lit.int .i64 b).wf = true) (c : Int) (wc : (Lit.int .i64 c).wf = true) (w : World) :
    Calls Try.prog 7 #[.int .i64 a, .int .i64 b, .int .i64 c] w fun e w' => e = .returned (.bool true) ∧ Below w.heap.size w w' := by
  have HA := hid (i64_of_wf wa)
  have HB := hid (i64_of_wf wb)
  have HC := hid (i64_of_wf wc)
  clear wa wb wc
  obtain ⟨p, hp⟩ : ∃ p, a * b = p := ⟨_, rfl⟩
  have EP := hid hp
  clear hp
  by_cases hb : mdb p c 0 = true ∧ mdb p c 1 = true
  · obtain ⟨h0, h1⟩ := hb
    have hc : 0 < c := (mdb_true h0).1
    have hf := modes_facts hc h0 h1
    have i0 := i64_mdn p c 0
    have i1 := i64_mdn p c 1
    obtain ⟨x0, g0⟩ : ∃ x, mdn p c 0 = x := ⟨_, rfl⟩
    obtain ⟨x1, g1⟩ : ∃ x, mdn p c 1 = x := ⟨_, rfl⟩
    obtain ⟨x2, g2⟩ : ∃ x, mdn p c 2 = x := ⟨_, rfl⟩
    obtain ⟨x3, g3⟩ : ∃ x, mdn p c 3 = x := ⟨_, rfl⟩
    rw [g0, g1, g2, g3] at hf
    rw [g0] at i0
    rw [g1] at i1
    have H0 := hid h0
    have H1 := hid h1
    have H2 := hid hf.1
    have H3 := hid hf.2.1
    have G0 := hid g0
    have G1 := hid g1
    have G2 := hid g2
    have G3 := hid g3
    have I0 := hid i0
    obtain ⟨z, hz⟩ : ∃ z, x0 * c = z := ⟨_, rfl⟩
    rw [hz] at hf
    have EZ := hid hz
    have hf2 := hf.2.2
    have a0 : -9223372036854775808 ≤ x0 := i0.1
    have a1 : x1 ≤ 9223372036854775807 := i1.2
    clear hf h0 h1 g0 g1 g2 g3 hz i0 i1
    have hone : x0 + 1 - x0 = 1 := by omega
    have hz1 := hi_lo z.natAbs
    have hp1 := hi_lo p.natAbs
    rcases hf2 with ⟨hzp, e1, e2, e3⟩ | ⟨hzp, e1, e2 | e2, e3 | e3⟩
    all_goals
      subst e1 e2 e3
      go_enter Try.func7, Try.ntmps7
      go_wp2_with fail
      refine (alive_any _).mono ?_; rintro e w0 ⟨rfl, n, rfl⟩
      go_wp2_with fail
      refine (Rd.muldiv_any a b c 0 _ HA.out HB.out HC.out).mono ?_; rintro e w1 ⟨rfl, n1, rfl⟩; rw [EP.out, G0.out, H0.out]
      go_wp2_with fail
      refine (Rd.muldiv_any a b c 1 _ HA.out HB.out HC.out).mono ?_; rintro e w1 ⟨rfl, n2, rfl⟩; rw [EP.out, G1.out, H1.out]
      go_wp2_with fail
      refine (Rd.muldiv_any a b c 2 _ HA.out HB.out HC.out).mono ?_; rintro e w1 ⟨rfl, n3, rfl⟩; rw [EP.out, G2.out, H2.out]
      go_wp2_with fail
      refine (Rd.muldiv_any a b c 3 _ HA.out HB.out HC.out).mono ?_; rintro e w1 ⟨rfl, n4, rfl⟩; rw [EP.out, G3.out, H3.out]
      have B1 : Hid (Below w.heap.size w (w.drewN (n + n1 + n2 + n3 + n4))) := below_drewN (Below.refl _ _) _
      go_wp2_with fail
      refine (R1.mul_any _ c _ I0.out HC.out).mono ?_; rintro e w3 ⟨rfl, hb⟩; rw [EZ.out]
      have B3 : Hid (Below w.heap.size w w3) := R2.below_on B1.out hb
      clear hb B1
      go_wp2_with fail
      refine (R1.mul_any a b _ HA.out HB.out).mono ?_; rintro e w4 ⟨rfl, hb⟩; rw [EP.out]
      have B4 : Hid (Below w.heap.size w w4) := R2.below_on B3.out hb
      clear hb B3
      try (subst hzp)
      try rw [R2.W_parts z]
      try rw [R2.W_parts p]
      go_upto_region 10 with fail
      all_goals first
        | (exfalso; omega)
        | (clear hz1 hp1
           go_wp2
           go_ret
           exact ⟨rfl, B4.out⟩)
  · have hn : mdb p c 0 = false ∨ (mdb p c 0 = true ∧ mdb p c 1 = false) := by
      cases h0 : mdb p c 0 <;> cases h1 : mdb p c 1 <;> simp_all
    clear hb
    rcases hn with h0 | ⟨h0, h1⟩
    · have H0 := hid h0
      clear h0
      go_enter Try.func7, Try.ntmps7
      go_wp2_with fail
      refine (alive_any _).mono ?_; rintro e w0 ⟨rfl, n, rfl⟩
      go_wp2_with fail
      refine (Rd.muldiv_any a b c 0 _ HA.out HB.out HC.out).mono ?_; rintro e w1 ⟨rfl, n1, rfl⟩; rw [EP.out, H0.out]
      go_wp2_with fail
      refine (Rd.muldiv_any a b c 1 _ HA.out HB.out HC.out).mono ?_; rintro e w1 ⟨rfl, n2, rfl⟩; rw [EP.out]
      go_wp2
      go_ret
      exact ⟨rfl, below_drewN (Below.refl _ _) _⟩
    · have H0 := hid h0
      have H1 := hid h1
      clear h0 h1
      go_enter Try.func7, Try.ntmps7
      go_wp2_with fail
      refine (alive_any _).mono ?_; rintro e w0 ⟨rfl, n, rfl⟩
      go_wp2_with fail
      refine (Rd.muldiv_any a b c 0 _ HA.out HB.out HC.out).mono ?_; rintro e w1 ⟨rfl, n1, rfl⟩; rw [EP.out, H0.out]
      go_wp2_with fail
      refine (Rd.muldiv_any a b c 1 _ HA.out HB.out HC.out).mono ?_; rintro e w1 ⟨rfl, n2, rfl⟩; rw [EP.out, H1.out]
      go_wp2
      go_ret
      exact ⟨rfl, below_drewN (Below.refl _ _) _⟩
end Go.Proofs.Ytpmibknabckboaa.L02

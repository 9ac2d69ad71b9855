/- Layer 2's law RoundNear returns true. -/
import Derived.Test.YtpmibknabckboaaL02
namespace Go.Proofs.Ytpmibknabckboaa.L02
open Go.RowKit P Ex Rd R1

theorem W_near (d : Int) (h : (d.natAbs : Int) < 9223372036854775808) : W d = .agg #[.bool (decide (d < 0)), .int .u64 0, .int .u64 (d.natAbs : Int)] := by
  rw [R2.W_parts, hiN_small (by omega), loN_small (by omega)]; rfl
set_option maxHeartbeats 4000000 in
theorem near_walk (a : Int) (wa : (Lit.int .i64 a).wf = true) (b : Int) (wb : (Lit.int .i64 b).wf = true) (c : Int) (wc : (Lit.int .i64 c).wf = true) (mode : Int) (_wm : (Lit.int .i64 mode).wf = true) (w : World) :
    Calls Try.prog 4 #[.int .i64 a, .int .i64 b, .int .i64 c, .int .i64 mode] w fun e w' => e = .returned (.bool true) ∧ Below w.heap.size w w' := by
  have HA := hid (i64_of_wf wa)
  have HB := hid (i64_of_wf wb)
  have HC := hid (i64_of_wf wc)
  clear wa wb wc
  obtain ⟨p, hp⟩ : ∃ p, a * b = p := ⟨_, rfl⟩
  have HP : Hid (p.natAbs < two127) := by show _ < _; rw [← hp]; exact prod_lt' HA.out HB.out
  have EP := hid hp
  clear hp
  rcases Bool.eq_false_or_eq_true (mdb p c mode) with hm | hm
  · obtain ⟨n, hn⟩ : ∃ n, n = mdn p c mode := ⟨_, rfl⟩
    obtain ⟨z, hz⟩ : ∃ z, z = n * c := ⟨_, rfl⟩
    obtain ⟨y, hy⟩ : ∃ y, y = -z := ⟨_, rfl⟩
    obtain ⟨d, hd⟩ : ∃ d, d = p + y := ⟨_, rfl⟩
    have hf := near_facts (d := d) hm hn (by omega)
    have HI : Hid (I64 n) := by show I64 n; rw [hn]; exact i64_mdn _ _ _
    have HY : Hid (y.natAbs < two127) := by show _ < _; rw [hy, Int.natAbs_neg, hz]; exact prod_lt' HI.out HC.out
    have HM := hid hm
    have EN := hid hn
    have EZ := hid hz
    have EY := hid hy
    have ED := hid hd
    obtain ⟨hc0, hlt, hcase⟩ := hf
    have c1 : c ≤ 9223372036854775807 := HC.out.2
    have EW := hid (W_near d (by omega))
    have T := tmod2 n
    clear hm hn hz hy hd
    obtain ⟨m, hm⟩ : ∃ m : Int, (d.natAbs : Int) = m := ⟨_, rfl⟩
    rw [hm] at hlt hcase
    have m0 : 0 ≤ m := by omega
    have hsame : d = m ∨ (d = -m ∧ d < 0) := by omega
    have EM := hid hm
    clear hm
    -- what is asked, decided ahead: a case each
    have hall : (mode = 0 ∧ decide (d < 0) = false) ∨ (mode = 1 ∧ decide (d < 0) = true) ∨ (mode = 1 ∧ decide (d < 0) = false ∧ m = 0) ∨
        (mode = 2 ∧ decide (m < c - m) = true) ∨ (mode = 2 ∧ decide (m < c - m) = false ∧ (m == c - m) = true ∧ decide (d < 0) = true) ∨
        (mode = 3 ∧ decide (m < c - m) = true) ∨ (mode = 3 ∧ decide (m < c - m) = false ∧ (m == c - m) = true ∧ (n.tmod 2 == 0) = true) := by
      have T2 : (n.tmod 2 == 0) = !decide (n % 2 ≠ 0) := by rw [← T]; cases h : (n.tmod 2 == 0) <;> simp [bne, h]
      rw [T2]
      simp only [decide_eq_false_iff_not, decide_eq_true_eq, beq_iff_eq, Bool.not_eq_true', ne_eq, Decidable.not_not]
      omega
    clear hcase hsame T
    rcases hall with ⟨rfl, t1⟩ | ⟨rfl, t1⟩ | ⟨rfl, t1, t2⟩ | ⟨rfl, t1⟩ | ⟨rfl, t1, t2, t3⟩ | ⟨rfl, t1⟩ | ⟨rfl, t1, t2, t3⟩
    all_goals
      go_enter Try.func4, Try.ntmps4
      go_wp2_with fail
      refine (alive_any _).mono ?_; rintro e w0 ⟨rfl, n0, rfl⟩
      go_wp2_with fail
      refine (Rd.muldiv_any a b c _ _ HA.out HB.out HC.out).mono ?_; rintro e w1 ⟨rfl, n1, rfl⟩; rw [EP.out, HM.out, ← EN.out]
      have B1 : Hid (Below w.heap.size w (w.drewN (n0 + n1))) := below_drewN (Below.refl _ _) _
      go_wp2_with fail
      refine (R1.mul_any a b _ HA.out HB.out).mono ?_; rintro e w2 ⟨rfl, hb⟩; rw [EP.out]
      have B2 : Hid (Below w.heap.size w w2) := R2.below_on B1.out hb
      clear hb B1
      go_wp2_with fail
      refine (R1.mul_any n c _ HI.out HC.out).mono ?_; rintro e w3 ⟨rfl, hb⟩; rw [← EZ.out]
      have B3 : Hid (Below w.heap.size w w3) := R2.below_on B2.out hb
      clear hb B2
      go_wp2_with fail
      refine (opposite_any z _).mono ?_; rintro e w4 ⟨rfl, hb⟩; rw [← EY.out]
      have B4 : Hid (Below w.heap.size w w4) := R2.below_on B3.out hb
      clear hb B3
      go_wp2_with fail
      refine (R1.add_any p y _ HP.out HY.out).mono ?_; rintro e w5 ⟨rfl, hb⟩; rw [← ED.out, EW.out, EM.out]
      have B5 : Hid (Below w.heap.size w w5) := R2.below_on B4.out hb
      clear hb B4
      go_wp2
      go_ret
      exact ⟨by first | rfl | (rw [t1]; rfl), R2.alloc_on B5.out _⟩
  · have hz := mdb_false hm
    have HM := hid hm
    have HZ := hid hz
    clear hm hz
    go_enter Try.func4, Try.ntmps4
    go_wp2_with fail
    refine (alive_any _).mono ?_; rintro e w0 ⟨rfl, n0, rfl⟩
    go_wp2_with fail
    refine (Rd.muldiv_any a b c mode _ HA.out HB.out HC.out).mono ?_; rintro e w1 ⟨rfl, n1, rfl⟩; rw [EP.out, HM.out, HZ.out]
    go_wp2
    go_ret
    exact ⟨rfl, below_drewN (Below.refl _ _) _⟩
end Go.Proofs.Ytpmibknabckboaa.L02

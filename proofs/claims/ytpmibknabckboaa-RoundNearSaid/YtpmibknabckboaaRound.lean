/- What each call of package round answers, for all numbers of 64 bits. -/
import Derived.Test.YtpmibknabckboaaPureR
import Derived.Test.YtpmibknabckboaaDiv
import Derived.Test.YtpmibknabckboaaExact
namespace Go.Proofs.Ytpmibknabckboaa.Rd
open Go.RowKit P Ex Bt

theorem size_any (n : Int) (w : World) (hn : I64 n) :
    Calls Try.prog 20 #[.int .i64 n] w fun e w' => e = .returned (.int .u64 (n.natAbs : Int)) ∧ w = w' := by
  by_cases h : n < 0
  · have E : Hid (IntKind.u64.wrap (-IntKind.u64.wrap n) = (n.natAbs : Int)) := by
      show _ = _; rw [u64_mod, u64_mod]; unfold I64 at hn; omega
    clear hn
    go_enter Try.func20, Try.ntmps20
    go_wp2
    go_ret
    exact ⟨by rw [← E.out]; rfl, rfl⟩
  · have E : Hid (n = (n.natAbs : Int)) := by show _ = _; omega
    have h1 : 0 ≤ n := by omega
    have h2 : n ≤ 9223372036854775807 := by unfold I64 at hn; omega
    clear hn
    go_enter Try.func20, Try.ntmps20
    go_wp2
    go_ret
    exact ⟨by rw [← E.out]; rfl, rfl⟩
theorem good_any (mode : Int) (w : World) :
    Calls Try.prog 13 #[.int .i64 mode] w fun e w' => e = .returned (.bool (goodm mode)) ∧ w = w' := by
  by_cases h : goodm mode = true
  · rw [h]
    have hg := (goodm_iff mode).1 h
    have hm : mode = 0 ∨ mode = 1 ∨ mode = 2 ∨ mode = 3 := by omega
    clear hg h
    rcases hm with rfl | rfl | rfl | rfl
    all_goals
      go_enter Try.func13, Try.ntmps13
      go_wp2
      go_ret
      exact ⟨rfl, rfl⟩
  · have e : goodm mode = false := by simpa using h
    rw [e]
    have hg : ¬ (0 ≤ mode ∧ mode ≤ 3) := fun k => h ((goodm_iff mode).2 k)
    have e0 : (mode == 0) = false := by simp; omega
    have e1 : (mode == 1) = false := by simp; omega
    have e2 : (mode == 2) = false := by simp; omega
    have e3 : (mode == 3) = false := by simp; omega
    clear hg h e
    go_enter Try.func13, Try.ntmps13
    go_wp2
    go_ret
    exact ⟨rfl, rfl⟩
theorem signed_any (n : Int) (b : Bool) (w : World) (h0 : 0 ≤ n) (h1 : n < 18446744073709551616) :
    Calls Try.prog 23 #[.int .u64 n, .bool b] w fun e w' => e = .returned (.tuple #[.int .i64 (cut64 (sgn b n)), .bool (ok64 (sgn b n))]) ∧ w = w' := by
  cases b
  · show Calls _ _ _ _ fun e w' => e = .returned (.tuple #[.int .i64 (cut64 n), .bool (ok64 n)]) ∧ w = w'
    by_cases h : n < 9223372036854775808
    · have hi : I64 n := by unfold I64; omega
      rw [cut64_t hi, ok64_t hi]
      have E := hid (wrap_in hi)
      clear hi
      go_enter Try.func23, Try.ntmps23
      go_wp2
      go_ret2
      exact ⟨by first | rfl | (rw [← E.out]; rfl), rfl⟩
    · have hi : ¬ I64 n := by unfold I64; omega
      rw [cut64_f hi, ok64_f hi]
      clear hi
      go_enter Try.func23, Try.ntmps23
      go_wp2
      go_ret2
      exact ⟨rfl, rfl⟩
  · show Calls _ _ _ _ fun e w' => e = .returned (.tuple #[.int .i64 (cut64 (-n)), .bool (ok64 (-n))]) ∧ w = w'
    by_cases h : n ≤ 9223372036854775808
    · have hi : I64 (-n) := by unfold I64; omega
      rw [cut64_t hi, ok64_t hi]
      have E : Hid (wrap64 (IntKind.u64.wrap (-n)) = -n) := by show _ = _; rw [u64_mod]; unfold wrap64; omega
      clear hi
      go_enter Try.func23, Try.ntmps23
      go_wp2
      go_ret2
      exact ⟨by rw [E.out]; rfl, rfl⟩
    · have hi : ¬ I64 (-n) := by unfold I64; omega
      rw [cut64_f hi, ok64_f hi]
      clear hi
      go_enter Try.func23, Try.ntmps23
      go_wp2
      go_ret2
      exact ⟨rfl, rfl⟩
theorem outward_any (q r c mode : Int) (b : Bool) (w : World) (h0 : 0 ≤ q) (h1 : q < 18446744073709551616) (r0 : 0 ≤ r) (r1 : r < 9223372036854775808) :
    Calls Try.prog 22 #[.int .u64 q, .int .u64 r, .int .u64 c, .bool b, .int .i64 mode] w fun e w' => e = .returned (.bool (outB q r c b mode)) ∧ w = w' := by
  unfold outB
  by_cases hr : r = 0
  · subst hr
    rw [if_pos rfl]
    go_enter Try.func22, Try.ntmps22
    go_wp2
    go_ret
    exact ⟨rfl, rfl⟩
  · rw [if_neg hr]
    have e0 : (r == 0) = false := by simpa using hr
    by_cases m0 : mode = 0
    · subst m0
      rw [if_pos rfl]
      go_enter Try.func22, Try.ntmps22
      go_wp2
      go_ret
      exact ⟨rfl, rfl⟩
    · rw [if_neg m0]
      have e1 : (mode == 0) = false := by simpa using m0
      by_cases m1 : mode = 1
      · subst m1
        rw [if_pos rfl]
        go_enter Try.func22, Try.ntmps22
        go_wp2
        go_ret
        exact ⟨rfl, rfl⟩
      · rw [if_neg m1]
        have e2 : (mode == 1) = false := by simpa using m1
        have t0 : 0 ≤ 2 * r := by omega
        have t1 : 2 * r < 18446744073709551616 := by omega
        by_cases hc : 2 * r = c
        · have e3 : (2 * r == c) = true := by simpa using hc
          rw [if_neg (by omega)]
          by_cases m2 : mode = 2
          · subst m2
            rw [if_pos rfl]
            clear hc
            go_enter Try.func22, Try.ntmps22
            go_wp2
            go_ret
            exact ⟨rfl, rfl⟩
          · rw [if_neg m2]
            have e4 : (mode == 2) = false := by simpa using m2
            have E : Hid ((q.tmod 2 == 1) = decide (q % 2 = 1)) := by
              show _ = _; rw [Int.tmod_eq_emod_of_nonneg h0]; rfl
            clear hc
            go_enter Try.func22, Try.ntmps22
            go_wp2
            go_ret
            exact ⟨by first | (rw [← E.out]; rfl) | rfl, rfl⟩
        · have e3 : (2 * r == c) = false := by simpa using hc
          rw [if_pos hc]
          clear hc
          go_enter Try.func22, Try.ntmps22
          go_wp2
          go_ret
          exact ⟨rfl, rfl⟩
theorem below_sgn (a b : Int) : sgn (!(decide (a < 0) == decide (b < 0))) ((a.natAbs * b.natAbs : Nat) : Int) = a * b := by
  rw [← Int.natAbs_mul]
  by_cases ha : a < 0
  · by_cases hb : b < 0
    · rw [decide_eq_true ha, decide_eq_true hb]
      have := Int.mul_pos_of_neg_of_neg ha hb
      show ((a * b).natAbs : Int) = _; omega
    · rw [decide_eq_true ha, decide_eq_false hb]
      have := Int.mul_nonpos_of_nonpos_of_nonneg (show a ≤ 0 by omega) (show 0 ≤ b by omega)
      show -((a * b).natAbs : Int) = _; omega
  · by_cases hb : b < 0
    · rw [decide_eq_false ha, decide_eq_true hb]
      have := Int.mul_nonpos_of_nonneg_of_nonpos (show 0 ≤ a by omega) (show b ≤ 0 by omega)
      show -((a * b).natAbs : Int) = _; omega
    · rw [decide_eq_false ha, decide_eq_false hb]
      have := Int.mul_nonneg (show 0 ≤ a by omega) (show 0 ≤ b by omega)
      show ((a * b).natAbs : Int) = _; omega
set_option maxHeartbeats 1000000 in
theorem muldiv_good (a b c mode : Int) (w : World) (ha : I64 a) (hb : I64 b) (hc : I64 c) (hc0 : 0 < c) (hm : goodm mode = true) :
    Calls Try.prog 10 #[.int .i64 a, .int .i64 b, .int .i64 c, .int .i64 mode] w fun e w' => e = .returned (.tuple #[.int .i64 (cut64 (rnd (a * b) c mode)), .bool (ok64 (rnd (a * b) c mode))]) ∧ ∃ n, w' = w.drewN n := by
  have hx : a.natAbs < 18446744073709551616 := by unfold I64 at ha; omega
  have hy : b.natAbs < 18446744073709551616 := by unfold I64 at hb; omega
  have c1 : c ≤ 9223372036854775807 := by unfold I64 at hc; omega
  have e0 : decide (c ≤ 0) = false := by simp; omega
  have HA := hid ha
  have HB := hid hb
  have HM := hid hm
  clear ha hb hc
  go_enter Try.func10, Try.ntmps10
  go_wp2_with fail
  refine (good_any _ _).mono ?_; rintro e w1 ⟨rfl, rfl⟩; rw [HM.out]
  go_wp2_with fail
  refine (size_any _ _ HA.out).mono ?_; rintro e w1 ⟨rfl, rfl⟩
  go_wp2_with fail
  refine (size_any _ _ HB.out).mono ?_; rintro e w1 ⟨rfl, rfl⟩
  go_wp2_with fail
  refine (mul64_any _ _ hx hy _).mono ?_; rintro e w1 ⟨rfl, rfl⟩
  have hs := below_sgn a b
  generalize hmm : a.natAbs * b.natAbs = m at *
  obtain ⟨t, ht⟩ : ∃ t, (!(decide (a < 0) == decide (b < 0))) = t := ⟨_, rfl⟩
  rw [ht] at hs
  have HS := hid hs
  have HL : Hid (loN m < 18446744073709551616) := loN_lt m
  clear hmm hs
  by_cases hq : c ≤ (hiN m : Int)
  · have hbig := big_quot hc0 hq
    have hn : ¬ I64 (rnd (a * b) c mode) := by
      rw [← HS.out]
      exact rnd_sgn_big t hc0 HM.out (by split <;> omega)
    have HN := hid hn
    clear hbig hn
    go_wp2
    go_ret2
    exact ⟨ret_2 (cut64_f HN.out).symm (ok64_f HN.out).symm, 0, rfl⟩
  · have hsm := small_quot hc0 hq
    have r0 := Int.emod_nonneg (m : Int) (show c ≠ 0 by omega)
    have r1 := Int.emod_lt_of_pos (m : Int) hc0
    go_wp2_with fail
    refine (div64_any _ _ _ _ (by omega) (by omega) (by omega) (by omega) (by have := HL.out; omega)).mono ?_; rintro e w1 ⟨rfl, n, rfl⟩
    rw [hi_lo_int]
    have hout := out_rnd (m := (m : Int)) t hc0 HM.out
    rw [HS.out] at hout
    generalize hqq : (m : Int) / c = q at *
    generalize hrr : (m : Int) % c = r at *
    have HO := hid hout
    clear hqq hrr hout
    go_wp2_with fail
    obtain ⟨q0, q1⟩ := hsm
    refine (outward_any q r c mode t _ q0 q1 r0 (by omega)).mono ?_; rintro e w1 ⟨rfl, rfl⟩
    generalize outB q r c t mode = o at *
    cases o
    · have HP : Hid (sgn t q = rnd (a * b) c mode) := by show _ = _; rw [← HO.out]; simp
      clear HO
      go_wp2_with fail
      refine (signed_any q t _ q0 q1).mono ?_; rintro e w1 ⟨rfl, rfl⟩
      go_wp2
      go_ret2
      exact ⟨ret_2 (by rw [HP.out]) (by rw [HP.out]), n, rfl⟩
    · by_cases hl : q = 18446744073709551615
      · have HN : Hid (¬ I64 (rnd (a * b) c mode)) := by
          show ¬ _
          rw [← HO.out, hl]
          unfold I64 sgn
          cases t <;> simp
        clear HO
        have e1 : (q == 18446744073709551615) = true := by simpa using hl
        clear hl
        go_wp2
        go_ret2
        exact ⟨ret_2 (cut64_f HN.out).symm (ok64_f HN.out).symm, n, rfl⟩
      · have HP : Hid (sgn t (q + 1) = rnd (a * b) c mode) := by show _ = _; rw [← HO.out]; simp
        clear HO
        have e1 : (q == 18446744073709551615) = false := by simpa using hl
        have q2 : q + 1 < 18446744073709551616 := by omega
        clear hl
        go_wp2_with fail
        refine (signed_any (q + 1) t _ (by omega) q2).mono ?_; rintro e w1 ⟨rfl, rfl⟩
        go_wp2
        go_ret2
        exact ⟨ret_2 (by rw [HP.out]) (by rw [HP.out]), n, rfl⟩
theorem muldiv_any (a b c mode : Int) (w : World) (ha : I64 a) (hb : I64 b) (hc : I64 c) :
    Calls Try.prog 10 #[.int .i64 a, .int .i64 b, .int .i64 c, .int .i64 mode] w fun e w' => e = .returned (.tuple #[.int .i64 (mdn (a * b) c mode), .bool (mdb (a * b) c mode)]) ∧ ∃ n, w' = w.drewN n := by
  by_cases hc0 : 0 < c
  · by_cases hm : goodm mode = true
    · rw [mdn_good hc0 hm, mdb_good hc0 hm]
      exact muldiv_good a b c mode w ha hb hc hc0 hm
    · have hm' : goodm mode = false := by simpa using hm
      rw [mdn_m hm', mdb_m hm']
      have e0 : decide (c ≤ 0) = false := by simp; omega
      have HM := hid hm'
      clear hm hm' ha hb hc
      go_enter Try.func10, Try.ntmps10
      go_wp2_with fail
      refine (good_any _ _).mono ?_; rintro e w1 ⟨rfl, rfl⟩; rw [HM.out]
      go_wp2
      go_ret2
      exact ⟨rfl, 0, rfl⟩
  · rw [mdn_c (by omega), mdb_c (by omega)]
    have e0 : decide (c ≤ 0) = true := by simp; omega
    clear ha hb hc
    go_enter Try.func10, Try.ntmps10
    go_wp2
    go_ret2
    exact ⟨rfl, 0, rfl⟩
theorem div_any (a c mode : Int) (w : World) (ha : I64 a) (hc : I64 c) :
    Calls Try.prog 12 #[.int .i64 a, .int .i64 c, .int .i64 mode] w fun e w' => e = .returned (.tuple #[.int .i64 (mdn a c mode), .bool (mdb a c mode)]) ∧ ∃ n, w' = w.drewN n := by
  have h := fun w => muldiv_any a 1 c mode w ha (by unfold I64; omega) hc
  rw [Int.mul_one] at h
  have H := hid h
  clear h ha hc
  go_enter Try.func12, Try.ntmps12
  go_wp2_with fail
  refine (H.out _).mono ?_; rintro e w1 ⟨rfl, n, rfl⟩
  go_wp2
  go_ret2
  exact ⟨rfl, n, rfl⟩
/-- What Up answers. -/
def upn (a c : Int) : Int := if mdb a c 1 = true then cut64 (mdn a c 1 * c) else 0
def upb (a c : Int) : Bool := mdb a c 1 && ok64 (mdn a c 1 * c)
theorem i64_mdn (p c mode : Int) : I64 (mdn p c mode) := by
  unfold mdn; split
  · exact i64_cut _
  · exact i64_0
theorem up_any (a c : Int) (w : World) (ha : I64 a) (hc : I64 c) :
    Calls Try.prog 17 #[.int .i64 a, .int .i64 c] w fun e w' => e = .returned (.tuple #[.int .i64 (upn a c), .bool (upb a c)]) ∧ ∃ n, w' = w.drewN n := by
  have HA := hid ha
  have HC := hid hc
  have HI := hid (i64_mdn a c 1)
  clear ha hc
  rcases Bool.eq_false_or_eq_true (mdb a c 1) with hy | hy
  · rw [show upn a c = cut64 (mdn a c 1 * c) by unfold upn; rw [hy]; rfl, show upb a c = ok64 (mdn a c 1 * c) by unfold upb; rw [hy]; rfl]
    have HY := hid hy
    clear hy
    go_enter Try.func17, Try.ntmps17
    go_wp2_with fail
    refine (div_any a c 1 _ HA.out HC.out).mono ?_; rintro e w1 ⟨rfl, n, rfl⟩; rw [HY.out]
    go_wp2_with fail
    refine (Ex.mul_any _ c _ HI.out HC.out).mono ?_; rintro e w1 ⟨rfl, rfl⟩
    go_wp2
    go_ret2
    exact ⟨rfl, n, rfl⟩
  · rw [show upn a c = 0 by unfold upn; rw [hy]; rfl, show upb a c = false by unfold upb; rw [hy]; rfl]
    have HY := hid hy
    clear hy
    go_enter Try.func17, Try.ntmps17
    go_wp2_with fail
    refine (div_any a c 1 _ HA.out HC.out).mono ?_; rintro e w1 ⟨rfl, n, rfl⟩; rw [HY.out]
    go_wp2
    go_ret2
    exact ⟨rfl, n, rfl⟩
end Go.Proofs.Ytpmibknabckboaa.Rd

/- What each call of package round answers, for all numbers of 64 bits. -/
import Derived.Test.YtcbeocpllnmcjaaJPureS
import Derived.Test.YtcbeocpllnmcjaaJDiv
import Derived.Test.YtcbeocpllnmcjaaJExact
import Derived.Test.YtcbeocpllnmcjaaJRef6d
import Derived.Deep.RegionHeldLaw
import Derived.Deep.RegionHeld3
import Derived.BigQuiet
import Derived.Lib.QuietBelow
import Derived.WalkKit
import Derived.ProofKit
import Derived.Test.YtcbeocpllnmcjaaJRef6
import Derived.Deep.MidRow
import Derived.Deep.WholeRow
import Derived.Deep.CutBlock
import Derived.Deep.CutRange
import Derived.Deep.DeepCutAuto
import Derived.Test.YtcbeocpllnmcjaaJMem
namespace Go.Proofs.Ytcbeocpllnmcjaa.Rd
open Go.RowKit P Ex Bt
theorem size_any (n : Int) (w : World) (hn : I64 n) :
    Calls Try.prog 64 #[.int .i64 n] w fun e w' => e = .returned (.int .u64 (n.natAbs : Int)) ∧ w = w' := by
  by_cases h : n < 0
  · have E : Hid (IntKind.u64.wrap (-IntKind.u64.wrap n) = (n.natAbs : Int)) := by
      show _ = _; rw [u64_mod, u64_mod]; unfold I64 at hn; omega
    clear hn
    go_enter Try.func64, Try.ntmps64
    go_wp2
    go_ret
    exact ⟨by rw [← E.out]; rfl, rfl⟩
  · have E : Hid (n = (n.natAbs : Int)) := by show _ = _; omega
    have h1 : 0 ≤ n := by omega
    have h2 : n ≤ 9223372036854775807 := by unfold I64 at hn; omega
    clear hn
    go_enter Try.func64, Try.ntmps64
    go_wp2
    go_ret
    exact ⟨by rw [← E.out]; rfl, rfl⟩
theorem good_any (mode : Int) (w : World) :
    Calls Try.prog 62 #[.int .i64 mode] w fun e w' => e = .returned (.bool (goodm mode)) ∧ w = w' := by
  by_cases h : goodm mode = true
  · rw [h]
    have hg := (goodm_iff mode).1 h
    have hm : mode = 0 ∨ mode = 1 ∨ mode = 2 ∨ mode = 3 := by omega
    clear hg h
    rcases hm with rfl | rfl | rfl | rfl
    all_goals
      go_enter Try.func62, Try.ntmps62
      go_wp2
      go_ret
      exact ⟨rfl, rfl⟩
  · have e : goodm mode = false := by simpa using h
    rw [e]
    have hg : ¬ (0 ≤ mode ∧ mode ≤ 3) := fun k => h ((goodm_iff mode).2 k)
    have e0 : (mode == 0) = false := by simp; omega
    have e1 : (mode == 1) = false := by simp; omega
    have e2 : (mode == 2) = false := by simp; omega
    have e3 : (mode == 3) = false := by simp; omega
    clear hg h e
    go_enter Try.func62, Try.ntmps62
    go_wp2
    go_ret
    exact ⟨rfl, rfl⟩
theorem signed_any (n : Int) (b : Bool) (w : World) (h0 : 0 ≤ n) (h1 : n < 18446744073709551616) :
    Calls Try.prog 67 #[.int .u64 n, .bool b] w fun e w' => e = .returned (.tuple #[.int .i64 (cut64 (sgnB b n)), .bool (ok64 (sgnB b n))]) ∧ w = w' := by
  cases b
  · show Calls _ _ _ _ fun e w' => e = .returned (.tuple #[.int .i64 (cut64 n), .bool (ok64 n)]) ∧ w = w'
    by_cases h : n < 9223372036854775808
    · have hi : I64 n := by unfold I64; omega
      rw [cut64_t hi, ok64_t hi]
      have E := hid (wrap_in hi)
      clear hi
      go_enter Try.func67, Try.ntmps67
      go_wp2
      go_ret2
      exact ⟨by first | rfl | (rw [← E.out]; rfl), rfl⟩
    · have hi : ¬ I64 n := by unfold I64; omega
      rw [cut64_f hi, ok64_f hi]
      clear hi
      go_enter Try.func67, Try.ntmps67
      go_wp2
      go_ret2
      exact ⟨rfl, rfl⟩
  · show Calls _ _ _ _ fun e w' => e = .returned (.tuple #[.int .i64 (cut64 (-n)), .bool (ok64 (-n))]) ∧ w = w'
    by_cases h : n ≤ 9223372036854775808
    · have hi : I64 (-n) := by unfold I64; omega
      rw [cut64_t hi, ok64_t hi]
      have E : Hid (wrap64 (IntKind.u64.wrap (-n)) = -n) := by show _ = _; rw [u64_mod]; unfold wrap64; omega
      clear hi
      go_enter Try.func67, Try.ntmps67
      go_wp2
      go_ret2
      exact ⟨by rw [E.out]; rfl, rfl⟩
    · have hi : ¬ I64 (-n) := by unfold I64; omega
      rw [cut64_f hi, ok64_f hi]
      clear hi
      go_enter Try.func67, Try.ntmps67
      go_wp2
      go_ret2
      exact ⟨rfl, rfl⟩
theorem outward_any (q r c mode : Int) (b : Bool) (w : World) (h0 : 0 ≤ q) (h1 : q < 18446744073709551616) (r0 : 0 ≤ r) (r1 : r < 9223372036854775808) :
    Calls Try.prog 66 #[.int .u64 q, .int .u64 r, .int .u64 c, .bool b, .int .i64 mode] w fun e w' => e = .returned (.bool (outB q r c b mode)) ∧ w = w' := by
  unfold outB
  by_cases hr : r = 0
  · subst hr
    rw [if_pos rfl]
    go_enter Try.func66, Try.ntmps66
    go_wp2
    go_ret
    exact ⟨rfl, rfl⟩
  · rw [if_neg hr]
    have e0 : (r == 0) = false := by simpa using hr
    by_cases m0 : mode = 0
    · subst m0
      rw [if_pos rfl]
      go_enter Try.func66, Try.ntmps66
      go_wp2
      go_ret
      exact ⟨rfl, rfl⟩
    · rw [if_neg m0]
      have e1 : (mode == 0) = false := by simpa using m0
      by_cases m1 : mode = 1
      · subst m1
        rw [if_pos rfl]
        go_enter Try.func66, Try.ntmps66
        go_wp2
        go_ret
        exact ⟨rfl, rfl⟩
      · rw [if_neg m1]
        have e2 : (mode == 1) = false := by simpa using m1
        have t0 : 0 ≤ 2 * r := by omega
        have t1 : 2 * r < 18446744073709551616 := by omega
        by_cases hc : 2 * r = c
        · have e3 : (2 * r == c) = true := by simpa using hc
          rw [if_neg (by omega)]
          by_cases m2 : mode = 2
          · subst m2
            rw [if_pos rfl]
            clear hc
            go_enter Try.func66, Try.ntmps66
            go_wp2
            go_ret
            exact ⟨rfl, rfl⟩
          · rw [if_neg m2]
            have e4 : (mode == 2) = false := by simpa using m2
            have E : Hid ((q.tmod 2 == 1) = decide (q % 2 = 1)) := by
              show _ = _; rw [Int.tmod_eq_emod_of_nonneg h0]; rfl
            clear hc
            go_enter Try.func66, Try.ntmps66
            go_wp2
            go_ret
            exact ⟨by first | (rw [← E.out]; rfl) | rfl, rfl⟩
        · have e3 : (2 * r == c) = false := by simpa using hc
          rw [if_pos hc]
          clear hc
          go_enter Try.func66, Try.ntmps66
          go_wp2
          go_ret
          exact ⟨rfl, rfl⟩
theorem below_sgn (a b : Int) : sgnB (!(decide (a < 0) == decide (b < 0))) ((a.natAbs * b.natAbs : Nat) : Int) = a * b := by
  rw [← Int.natAbs_mul]
  by_cases ha : a < 0
  · by_cases hb : b < 0
    · rw [decide_eq_true ha, decide_eq_true hb]
      have := Int.mul_pos_of_neg_of_neg ha hb
      show ((a * b).natAbs : Int) = _; omega
    · rw [decide_eq_true ha, decide_eq_false hb]
      have := Int.mul_nonpos_of_nonpos_of_nonneg (show a ≤ 0 by omega) (show 0 ≤ b by omega)
      show -((a * b).natAbs : Int) = _; omega
  · by_cases hb : b < 0
    · rw [decide_eq_false ha, decide_eq_true hb]
      have := Int.mul_nonpos_of_nonneg_of_nonpos (show 0 ≤ a by omega) (show b ≤ 0 by omega)
      show -((a * b).natAbs : Int) = _; omega
    · rw [decide_eq_false ha, decide_eq_false hb]
      have := Int.mul_nonneg (show 0 ≤ a by omega) (show 0 ≤ b by omega)
      show ((a * b).natAbs : Int) = _; omega
set_option maxHeartbeats 1000000 in
theorem muldiv_good (a b c mode : Int) (w : World) (ha : I64 a) (hb : I64 b) (hc : I64 c) (hc0 : 0 < c) (hm : goodm mode = true) :
    Calls Try.prog 48 #[.int .i64 a, .int .i64 b, .int .i64 c, .int .i64 mode] w fun e w' => e = .returned (.tuple #[.int .i64 (cut64 (rnd (a * b) c mode)), .bool (ok64 (rnd (a * b) c mode))]) ∧ ∃ n, w' = w.drewN n := by
  have hx : a.natAbs < 18446744073709551616 := by unfold I64 at ha; omega
  have hy : b.natAbs < 18446744073709551616 := by unfold I64 at hb; omega
  have c1 : c ≤ 9223372036854775807 := by unfold I64 at hc; omega
  have e0 : decide (c ≤ 0) = false := by simp; omega
  have HA := hid ha
  have HB := hid hb
  have HM := hid hm
  clear ha hb hc
  go_enter Try.func48, Try.ntmps48
  go_wp2_with fail
  refine (good_any _ _).mono ?_; rintro e w1 ⟨rfl, rfl⟩; rw [HM.out]
  go_wp2_with fail
  refine (size_any _ _ HA.out).mono ?_; rintro e w1 ⟨rfl, rfl⟩
  go_wp2_with fail
  refine (size_any _ _ HB.out).mono ?_; rintro e w1 ⟨rfl, rfl⟩
  go_wp2_with fail
  refine (mul64_any _ _ hx hy _).mono ?_; rintro e w1 ⟨rfl, rfl⟩
  have hs := below_sgn a b
  generalize hmm : a.natAbs * b.natAbs = m at *
  obtain ⟨t, ht⟩ : ∃ t, (!(decide (a < 0) == decide (b < 0))) = t := ⟨_, rfl⟩
  rw [ht] at hs
  have HS := hid hs
  have HL : Hid (loN m < 18446744073709551616) := loN_lt m
  clear hmm hs
  by_cases hq : c ≤ (hiN m : Int)
  · have hbig := big_quot hc0 hq
    have hn : ¬ I64 (rnd (a * b) c mode) := by
      rw [← HS.out]
      exact rnd_sgn_big t hc0 HM.out (by split <;> omega)
    have HN := hid hn
    clear hbig hn
    go_wp2
    go_ret2
    exact ⟨Ex.ret_2 (cut64_f HN.out).symm (ok64_f HN.out).symm, 0, rfl⟩
  · have hsm := small_quot hc0 hq
    have r0 := Int.emod_nonneg (m : Int) (show c ≠ 0 by omega)
    have r1 := Int.emod_lt_of_pos (m : Int) hc0
    go_wp2_with fail
    refine (div64_any _ _ _ _ (by omega) (by omega) (by omega) (by omega) (by have := HL.out; omega)).mono ?_; rintro e w1 ⟨rfl, n, rfl⟩
    rw [hi_lo_int]
    have hout := out_rnd (m := (m : Int)) t hc0 HM.out
    rw [HS.out] at hout
    generalize hqq : (m : Int) / c = q at *
    generalize hrr : (m : Int) % c = r at *
    have HO := hid hout
    clear hqq hrr hout
    go_wp2_with fail
    obtain ⟨q0, q1⟩ := hsm
    refine (outward_any q r c mode t _ q0 q1 r0 (by omega)).mono ?_; rintro e w1 ⟨rfl, rfl⟩
    generalize outB q r c t mode = o at *
    cases o
    · have HP : Hid (sgnB t q = rnd (a * b) c mode) := by show _ = _; rw [← HO.out]; simp
      clear HO
      go_wp2_with fail
      refine (signed_any q t _ q0 q1).mono ?_; rintro e w1 ⟨rfl, rfl⟩
      go_wp2
      go_ret2
      exact ⟨Ex.ret_2 (by rw [HP.out]) (by rw [HP.out]), n, rfl⟩
    · by_cases hl : q = 18446744073709551615
      · have HN : Hid (¬ I64 (rnd (a * b) c mode)) := by
          show ¬ _
          rw [← HO.out, hl]
          unfold I64 sgnB
          cases t <;> simp
        clear HO
        have e1 : (q == 18446744073709551615) = true := by simpa using hl
        clear hl
        go_wp2
        go_ret2
        exact ⟨Ex.ret_2 (cut64_f HN.out).symm (ok64_f HN.out).symm, n, rfl⟩
      · have HP : Hid (sgnB t (q + 1) = rnd (a * b) c mode) := by show _ = _; rw [← HO.out]; simp
        clear HO
        have e1 : (q == 18446744073709551615) = false := by simpa using hl
        have q2 : q + 1 < 18446744073709551616 := by omega
        clear hl
        go_wp2_with fail
        refine (signed_any (q + 1) t _ (by omega) q2).mono ?_; rintro e w1 ⟨rfl, rfl⟩
        go_wp2
        go_ret2
        exact ⟨Ex.ret_2 (by rw [HP.out]) (by rw [HP.out]), n, rfl⟩
theorem muldiv_any (a b c mode : Int) (w : World) (ha : I64 a) (hb : I64 b) (hc : I64 c) :
    Calls Try.prog 48 #[.int .i64 a, .int .i64 b, .int .i64 c, .int .i64 mode] w fun e w' => e = .returned (.tuple #[.int .i64 (mdn (a * b) c mode), .bool (mdb (a * b) c mode)]) ∧ ∃ n, w' = w.drewN n := by
  by_cases hc0 : 0 < c
  · by_cases hm : goodm mode = true
    · rw [mdn_good hc0 hm, mdb_good hc0 hm]
      exact muldiv_good a b c mode w ha hb hc hc0 hm
    · have hm' : goodm mode = false := by simpa using hm
      rw [mdn_m hm', mdb_m hm']
      have e0 : decide (c ≤ 0) = false := by simp; omega
      have HM := hid hm'
      clear hm hm' ha hb hc
      go_enter Try.func48, Try.ntmps48
      go_wp2_with fail
      refine (good_any _ _).mono ?_; rintro e w1 ⟨rfl, rfl⟩; rw [HM.out]
      go_wp2
      go_ret2
      exact ⟨rfl, 0, rfl⟩
  · rw [mdn_c (by omega), mdb_c (by omega)]
    have e0 : decide (c ≤ 0) = true := by simp; omega
    clear ha hb hc
    go_enter Try.func48, Try.ntmps48
    go_wp2
    go_ret2
    exact ⟨rfl, 0, rfl⟩
theorem div_any (a c mode : Int) (w : World) (ha : I64 a) (hc : I64 c) :
    Calls Try.prog 60 #[.int .i64 a, .int .i64 c, .int .i64 mode] w fun e w' => e = .returned (.tuple #[.int .i64 (mdn a c mode), .bool (mdb a c mode)]) ∧ ∃ n, w' = w.drewN n := by
  have h := fun w => muldiv_any a 1 c mode w ha (by unfold I64; omega) hc
  rw [Int.mul_one] at h
  have H := hid h
  clear h ha hc
  go_enter Try.func60, Try.ntmps60
  go_wp2_with fail
  refine (H.out _).mono ?_; rintro e w1 ⟨rfl, n, rfl⟩
  go_wp2
  go_ret2
  exact ⟨rfl, n, rfl⟩
/-- What Up answers. -/
def upn (a c : Int) : Int := if mdb a c 1 = true then cut64 (mdn a c 1 * c) else 0
def upb (a c : Int) : Bool := mdb a c 1 && ok64 (mdn a c 1 * c)
theorem i64_mdn (p c mode : Int) : I64 (mdn p c mode) := by
  unfold mdn; split
  · exact i64_cut _
  · exact i64_0
theorem up_any (a c : Int) (w : World) (ha : I64 a) (hc : I64 c) :
    Calls Try.prog 47 #[.int .i64 a, .int .i64 c] w fun e w' => e = .returned (.tuple #[.int .i64 (upn a c), .bool (upb a c)]) ∧ ∃ n, w' = w.drewN n := by
  have HA := hid ha
  have HC := hid hc
  have HI := hid (i64_mdn a c 1)
  clear ha hc
  rcases Bool.eq_false_or_eq_true (mdb a c 1) with hy | hy
  · rw [show upn a c = cut64 (mdn a c 1 * c) by unfold upn; rw [hy]; rfl, show upb a c = ok64 (mdn a c 1 * c) by unfold upb; rw [hy]; rfl]
    have HY := hid hy
    clear hy
    go_enter Try.func47, Try.ntmps47
    go_wp2_with fail
    refine (div_any a c 1 _ HA.out HC.out).mono ?_; rintro e w1 ⟨rfl, n, rfl⟩; rw [HY.out]
    go_wp2_with fail
    refine (Ex.mul_any _ c _ HI.out HC.out).mono ?_; rintro e w1 ⟨rfl, rfl⟩
    go_wp2
    go_ret2
    exact ⟨rfl, n, rfl⟩
  · rw [show upn a c = 0 by unfold upn; rw [hy]; rfl, show upb a c = false by unfold upb; rw [hy]; rfl]
    have HY := hid hy
    clear hy
    go_enter Try.func47, Try.ntmps47
    go_wp2_with fail
    refine (div_any a c 1 _ HA.out HC.out).mono ?_; rintro e w1 ⟨rfl, n, rfl⟩; rw [HY.out]
    go_wp2
    go_ret2
    exact ⟨rfl, n, rfl⟩
end Go.Proofs.Ytcbeocpllnmcjaa.Rd
/- Package check, walked: days, holds, horizon, rising, greatest, below. -/
namespace Go.Proofs.Ytcbeocpllnmcjaa.Cc
open Go.RowKit Go.Sort P Mm Md R6 L06 R9
theorem num4 (d : Day) (h : DayOk d) (w : World) : Calls Try.prog 44 #[.agg #[.int .i64 d.y, .int .i64 d.m, .int .i64 d.d]] w fun e w' => e = .returned (.tuple #[.int .i64 (dn d), .bool true]) ∧ Below w.heap.size w w' := Dt.number_yes d.y d.m d.d w h
theorem ret_d {a b : Int} {k : IntKind} {w w' : World} {B : Nat} (h : a = b) (x : Below B w w') : (Ending.returned (.int k a) : Ending) = .returned (.int k b) ∧ Below B w w' := ⟨by rw [h], x⟩
set_option maxHeartbeats 4000000 in
theorem days_any (x y : Day) (w : World) (gx : DayOk x) (gy : DayOk y) : Calls Try.prog 32 #[.agg #[.int .i64 x.y, .int .i64 x.m, .int .i64 x.d], .agg #[.int .i64 y.y, .int .i64 y.m, .int .i64 y.d]] w fun e w' => e = .returned (.int .i64 (dn y - dn x)) ∧ Below w.heap.size w w' := by
  obtain ⟨w2, hw2⟩ : ∃ W, W = (w.alloc (.cells #[.int .i64 x.y, .int .i64 x.m, .int .i64 x.d] 24)).alloc (.cells #[.int .i64 y.y, .int .i64 y.m, .int .i64 y.d] 24) := ⟨_, rfl⟩
  have b2 : Below w.heap.size w w2 := by rw [hw2]; exact bel_on (bel_alloc _ _) (bel_alloc _ _)
  have X2 : Box w2 (w.heap.size + 1) [.int .i64 y.y, .int .i64 y.m, .int .i64 y.d] := by rw [hw2]; have := Box.new (w.alloc (.cells #[.int .i64 x.y, .int .i64 x.m, .int .i64 x.d] 24)) [.int .i64 y.y, .int .i64 y.m, .int .i64 y.d] 24; simpa using this
  have X1 : Box w2 w.heap.size [.int .i64 x.y, .int .i64 x.m, .int .i64 x.d] := by rw [hw2]; exact (Box.new w [.int .i64 x.y, .int .i64 x.m, .int .i64 x.d] 24).on (bel_alloc _ _)
  obtain ⟨A, hA⟩ : ∃ A, A = dn x := ⟨_, rfl⟩
  obtain ⟨B, hB⟩ : ∃ A, A = dn y := ⟨_, rfl⟩
  have cA := hid (num4 x gx)
  have cB := hid (num4 y gy)
  have ra := num_range gx
  have rb := num_range gy
  rw [← hA] at cA ra ⊢
  rw [← hB] at cB rb ⊢
  have d0 := X1.cell 0 _ rfl
  have d1 := X1.cell 1 _ rfl
  have d2 := X1.cell 2 _ rfl
  have HX := hid (fun W (b : Below w2.heap.size w2 W) => (⟨X2.on b, bel_on b2 b⟩ : Box W (w.heap.size + 1) _ ∧ Below w.heap.size w W))
  have HW := hid hw2
  clear hA hB b2 X1 X2 hw2
  go_enter Try.func32, Try.ntmps32
  go_upto_region 1 with fail
  rw [← HW.out]
  clear HW
  go_wp2_with fail
  refine (cA.out w2).mono ?_
  rintro e w3 ⟨rfl, b3⟩
  obtain ⟨Y, BW⟩ := HX.out w3 b3
  have e0 := Y.cell 0 _ rfl
  have e1 := Y.cell 1 _ rfl
  have e2 := Y.cell 2 _ rfl
  have BF := hid BW
  clear Y BW b3 d0 d1 d2 cA
  go_wp2_with fail
  refine (cB.out w3).mono ?_
  rintro e w4 ⟨rfl, b4⟩
  have BG := hid (bel_on BF.out b4)
  clear b4 e0 e1 e2 cB HX BF
  obtain ⟨ra0, ra1⟩ := ra
  obtain ⟨rb0, rb1⟩ := rb
  go_wp2
  go_ret
  exact ret_d rfl BG.out
set_option maxHeartbeats 4000000 in
set_option maxRecDepth 100000 in
theorem holds_any (p : Plan) (x : Win) (ma : Option Addr) (mc : Nat) (fa : Option Addr) (fc : Nat) (ca : Option Addr) (cc : Nat) (w : World) (gp : DayOk p.a ∧ DayOk p.b) (gx : WinOk x) :
    Calls Try.prog 34 #[.agg #[.string p.name, .string p.cur, .int .i64 p.a.y, .int .i64 p.a.m, .int .i64 p.a.d, .int .i64 p.b.y, .int .i64 p.b.m, .int .i64 p.b.d, .slice ma p.meters.length mc, .slice fa p.fees.length fc, .slice ca p.charges.length cc, .int .i64 p.line, .int .i64 p.col], .agg #[.bool x.has, .int .i64 x.a.y, .int .i64 x.a.m, .int .i64 x.a.d, .int .i64 x.b.y, .int .i64 x.b.m, .int .i64 x.b.d]] w fun e w' => e = .returned (.bool (winIn p x)) ∧ Below w.heap.size w w' := by
  cases hx : x.has with
  | false =>
    have e : winIn p x = true := by unfold winIn; rw [hx]; rfl
    rw [e]
    have BB := hid (bel_on (bel_alloc w (.cells [.string p.name, .string p.cur, .int .i64 p.a.y, .int .i64 p.a.m, .int .i64 p.a.d, .int .i64 p.b.y, .int .i64 p.b.m, .int .i64 p.b.d, .slice ma p.meters.length mc, .slice fa p.fees.length fc, .slice ca p.charges.length cc, .int .i64 p.line, .int .i64 p.col].toArray 31)) (bel_alloc (w.alloc (.cells [.string p.name, .string p.cur, .int .i64 p.a.y, .int .i64 p.a.m, .int .i64 p.a.d, .int .i64 p.b.y, .int .i64 p.b.m, .int .i64 p.b.d, .slice ma p.meters.length mc, .slice fa p.fees.length fc, .slice ca p.charges.length cc, .int .i64 p.line, .int .i64 p.col].toArray 31)) (.cells [.bool false, .int .i64 x.a.y, .int .i64 x.a.m, .int .i64 x.a.d, .int .i64 x.b.y, .int .i64 x.b.m, .int .i64 x.b.d].toArray 53)))
    clear gp gx hx e
    go_enter Try.func34, Try.ntmps34
    go_wp2
    go_ret
    exact ⟨rfl, BB.out⟩
  | true =>
    obtain ⟨ga, gb⟩ : DayOk x.a ∧ DayOk x.b := by
      rcases gx with ⟨_, h⟩ | h
      · exact h
      · rw [h] at hx; cases hx
    obtain ⟨w1, hw1⟩ : ∃ W, W = w.alloc (.cells [.string p.name, .string p.cur, .int .i64 p.a.y, .int .i64 p.a.m, .int .i64 p.a.d, .int .i64 p.b.y, .int .i64 p.b.m, .int .i64 p.b.d, .slice ma p.meters.length mc, .slice fa p.fees.length fc, .slice ca p.charges.length cc, .int .i64 p.line, .int .i64 p.col].toArray 31) := ⟨_, rfl⟩
    obtain ⟨k1, hk1⟩ : ∃ k, k = w.heap.size := ⟨_, rfl⟩
    have X1 : Box w1 k1 [.string p.name, .string p.cur, .int .i64 p.a.y, .int .i64 p.a.m, .int .i64 p.a.d, .int .i64 p.b.y, .int .i64 p.b.m, .int .i64 p.b.d, .slice ma p.meters.length mc, .slice fa p.fees.length fc, .slice ca p.charges.length cc, .int .i64 p.line, .int .i64 p.col] := by rw [hw1, hk1]; exact Box.new _ _ _
    have b1 : Below w.heap.size w w1 := by rw [hw1]; exact bel_alloc _ _
    obtain ⟨w2, hw2⟩ : ∃ W, W = w1.alloc (.cells [.bool true, .int .i64 x.a.y, .int .i64 x.a.m, .int .i64 x.a.d, .int .i64 x.b.y, .int .i64 x.b.m, .int .i64 x.b.d].toArray 53) := ⟨_, rfl⟩
    obtain ⟨k2, hk2⟩ : ∃ k, k = w1.heap.size := ⟨_, rfl⟩
    have X2 : Box w2 k2 [.bool true, .int .i64 x.a.y, .int .i64 x.a.m, .int .i64 x.a.d, .int .i64 x.b.y, .int .i64 x.b.m, .int .i64 x.b.d] := by rw [hw2, hk2]; exact Box.new _ _ _
    have b2 : Below w1.heap.size w1 w2 := by rw [hw2]; exact bel_alloc _ _
    have hk3 : k2 = w.heap.size + 1 := by rw [hk2, hw1]; simp
    have X := hid (fun (W : World) (b : Below w2.heap.size w2 W) => (⟨(X1.on b2).on b, X2.on b, bel_on (bel_on b1 b2) b⟩ : Box W k1 _ ∧ Box W k2 _ ∧ Below w.heap.size w W))
    obtain ⟨D1, hD1⟩ : ∃ A, A = dn x.b - dn x.a := ⟨_, rfl⟩
    obtain ⟨D2, hD2⟩ : ∃ A, A = dn x.a - dn p.a := ⟨_, rfl⟩
    obtain ⟨D3, hD3⟩ : ∃ A, A = dn p.b - dn x.b := ⟨_, rfl⟩
    have c1 := hid (fun W => days_any x.a x.b W ga gb)
    have c2 := hid (fun W => days_any p.a x.a W gp.1 ga)
    have c3 := hid (fun W => days_any x.b p.b W gb gp.2)
    rw [← hD1] at c1
    rw [← hD2] at c2
    rw [← hD3] at c3
    obtain ⟨R, hR⟩ : ∃ R : Bool, R = (decide (0 ≤ D1) && decide (0 ≤ D2) && decide (0 ≤ D3)) := ⟨_, rfl⟩
    have e : winIn p x = R := by
      unfold winIn
      rw [hx, hR, hD1, hD2, hD3, show decide (0 ≤ dn x.b - dn x.a) = decide (dn x.a ≤ dn x.b) by rw [decide_eq_decide]; omega, show decide (0 ≤ dn x.a - dn p.a) = decide (dn p.a ≤ dn x.a) by rw [decide_eq_decide]; omega, show decide (0 ≤ dn p.b - dn x.b) = decide (dn x.b ≤ dn p.b) by rw [decide_eq_decide]; omega]
      rfl
    rw [e]
    have HR := hid hR
    have d0 := X2.cell 0 _ rfl; have d1 := X2.cell 1 _ rfl; have d2 := X2.cell 2 _ rfl; have d3 := X2.cell 3 _ rfl; have d4 := X2.cell 4 _ rfl; have d5 := X2.cell 5 _ rfl; have d6 := X2.cell 6 _ rfl
    have HW := hid (show w2 = (w.alloc (.cells [.string p.name, .string p.cur, .int .i64 p.a.y, .int .i64 p.a.m, .int .i64 p.a.d, .int .i64 p.b.y, .int .i64 p.b.m, .int .i64 p.b.d, .slice ma p.meters.length mc, .slice fa p.fees.length fc, .slice ca p.charges.length cc, .int .i64 p.line, .int .i64 p.col].toArray 31)).alloc (.cells [.bool true, .int .i64 x.a.y, .int .i64 x.a.m, .int .i64 x.a.d, .int .i64 x.b.y, .int .i64 x.b.m, .int .i64 x.b.d].toArray 53) by rw [hw2, hw1])
    have HK1 := hid hk1
    have HK3 := hid hk3
    have BF0 := hid (X.out w2 (Below.refl _ _)).2.2
    clear hD1 hD2 hD3 hR e hw1 hw2 b1 b2 X1 X2 hk1 hk2 hk3 ga gb gx gp hx
    go_enter Try.func34, Try.ntmps34
    go_upto_region 1 with fail
    rw [← HW.out, ← HK3.out, ← HK1.out]
    clear HW HK1 HK3
    by_cases h1 : 0 ≤ D1
    · have g1 : decide (0 ≤ D1) = true := decide_eq_true h1
      by_cases h2 : 0 ≤ D2
      · have g2 : decide (0 ≤ D2) = true := decide_eq_true h2
        have K : Hid (R = decide (0 ≤ D3)) := hid (by rw [HR.out, g1, g2]; rfl)
        go_wp2_with fail
        refine (c1.out w2).mono ?_
        rintro e w3 ⟨rfl, b3⟩
        have B3 := hid b3
        clear b3 d0 d1 d2 d3 d4 d5 d6 BF0
        obtain ⟨Y1, Y2, BW⟩ := X.out _ B3.out
        have a2 := Y1.cell 2 _ rfl
        have a3 := Y1.cell 3 _ rfl
        have a4 := Y1.cell 4 _ rfl
        have z1 := Y2.cell 1 _ rfl
        have z2 := Y2.cell 2 _ rfl
        have z3 := Y2.cell 3 _ rfl
        clear Y1 Y2 BW
        go_wp2_with fail
        refine (c2.out w3).mono ?_
        rintro e w4 ⟨rfl, b4⟩
        have B4 := hid (bel_on B3.out b4)
        clear b4 a2 a3 a4 z1 z2 z3 B3
        obtain ⟨Y1, Y2, BW⟩ := X.out _ B4.out
        have a5 := Y1.cell 5 _ rfl
        have a6 := Y1.cell 6 _ rfl
        have a7 := Y1.cell 7 _ rfl
        have z4 := Y2.cell 4 _ rfl
        have z5 := Y2.cell 5 _ rfl
        have z6 := Y2.cell 6 _ rfl
        clear Y1 Y2 BW
        go_wp2_with fail
        refine (c3.out w4).mono ?_
        rintro e w5 ⟨rfl, b5⟩
        have B5 := hid (X.out _ (bel_on B4.out b5)).2.2
        clear b5 a5 a6 a7 z4 z5 z6 B4
        by_cases h3 : 0 ≤ D3
        · have K2 : Hid (R = true) := hid (by rw [K.out, decide_eq_true h3])
          have g3 : decide (0 ≤ D3) = true := decide_eq_true h3
          clear K HR
          go_wp2
          go_ret
          exact rb_of (by rw [K2.out] <;> first | exact decide_eq_true h3) B5.out
        · have K2 : Hid (R = false) := hid (by rw [K.out, decide_eq_false h3])
          have g3 : decide (0 ≤ D3) = false := decide_eq_false h3
          clear K HR
          go_wp2
          go_ret
          exact rb_of (by rw [K2.out] <;> first | exact decide_eq_false h3) B5.out
      · have g2 : decide (0 ≤ D2) = false := decide_eq_false h2
        have K : Hid (R = false) := hid (by rw [HR.out, g1, g2]; rfl)
        go_wp2_with fail
        refine (c1.out w2).mono ?_
        rintro e w3 ⟨rfl, b3⟩
        have B3 := hid b3
        clear b3 d0 d1 d2 d3 d4 d5 d6 BF0
        obtain ⟨Y1, Y2, BW⟩ := X.out _ B3.out
        have a2 := Y1.cell 2 _ rfl
        have a3 := Y1.cell 3 _ rfl
        have a4 := Y1.cell 4 _ rfl
        have z1 := Y2.cell 1 _ rfl
        have z2 := Y2.cell 2 _ rfl
        have z3 := Y2.cell 3 _ rfl
        clear Y1 Y2 BW
        go_wp2_with fail
        refine (c2.out w3).mono ?_
        rintro e w4 ⟨rfl, b4⟩
        have BF := hid (X.out _ (bel_on B3.out b4)).2.2
        clear b4 a2 a3 a4 z1 z2 z3 B3
        go_wp2
        go_ret
        exact ⟨ret_b K.out.symm, BF.out⟩
    · have g1 : decide (0 ≤ D1) = false := decide_eq_false h1
      have K : Hid (R = false) := hid (by rw [HR.out, g1]; rfl)
      go_wp2_with fail
      refine (c1.out w2).mono ?_
      rintro e w3 ⟨rfl, b3⟩
      have BF := hid (X.out _ b3).2.2
      clear b3 d0 d1 d2 d3 d4 d5 d6 BF0
      go_wp2
      go_ret
      exact ⟨ret_b K.out.symm, BF.out⟩
set_option maxHeartbeats 4000000 in
set_option maxRecDepth 100000 in
theorem horizon_any (p : Plan) (ma : Option Addr) (mc : Nat) (fa : Option Addr) (fc : Nat) (ca : Option Addr) (cc : Nat) (w : World) (gp : DayOk p.a ∧ DayOk p.b) :
    Calls Try.prog 15 #[.agg #[.string p.name, .string p.cur, .int .i64 p.a.y, .int .i64 p.a.m, .int .i64 p.a.d, .int .i64 p.b.y, .int .i64 p.b.m, .int .i64 p.b.d, .slice ma p.meters.length mc, .slice fa p.fees.length fc, .slice ca p.charges.length cc, .int .i64 p.line, .int .i64 p.col]] w fun e w' => e = .returned (.int .i64 (headE p)) ∧ Below w.heap.size w w' := by
  obtain ⟨w1, hw1⟩ : ∃ W, W = w.alloc (.cells [.string p.name, .string p.cur, .int .i64 p.a.y, .int .i64 p.a.m, .int .i64 p.a.d, .int .i64 p.b.y, .int .i64 p.b.m, .int .i64 p.b.d, .slice ma p.meters.length mc, .slice fa p.fees.length fc, .slice ca p.charges.length cc, .int .i64 p.line, .int .i64 p.col].toArray 31) := ⟨_, rfl⟩
  obtain ⟨k1, hk1⟩ : ∃ k, k = w.heap.size := ⟨_, rfl⟩
  have X1 : Box w1 k1 [.string p.name, .string p.cur, .int .i64 p.a.y, .int .i64 p.a.m, .int .i64 p.a.d, .int .i64 p.b.y, .int .i64 p.b.m, .int .i64 p.b.d, .slice ma p.meters.length mc, .slice fa p.fees.length fc, .slice ca p.charges.length cc, .int .i64 p.line, .int .i64 p.col] := by rw [hw1, hk1]; exact Box.new _ _ _
  have b1 := hid (show Below w.heap.size w w1 by rw [hw1]; exact bel_alloc _ _)
  have c1 := hid (fun W => days_any p.a p.b W gp.1 gp.2)
  obtain ⟨D, hD⟩ : ∃ A, A = dn p.b - dn p.a := ⟨_, rfl⟩
  have ra := num_range gp.1
  have rb := num_range gp.2
  rw [← hD] at c1
  have d0 : -4000000 ≤ D := by omega
  have d1 : D ≤ 4000000 := by omega
  obtain ⟨R, hR⟩ : ∃ R, R = headE p := ⟨_, rfl⟩
  have HR : Hid (R = if D + 1 < 1 then 5 else if 4000 < D + 1 then 6 else 0) := hid (by rw [hR, hD]; rfl)
  rw [← hR]
  have e2 := X1.cell 2 _ rfl; have e3 := X1.cell 3 _ rfl; have e4 := X1.cell 4 _ rfl; have e5 := X1.cell 5 _ rfl; have e6 := X1.cell 6 _ rfl; have e7 := X1.cell 7 _ rfl
  have HW := hid hw1
  have HK := hid hk1
  clear hR hD ra rb gp X1 hw1 hk1
  go_enter Try.func15, Try.ntmps15
  go_upto_region 1 with fail
  rw [← HW.out, ← HK.out]
  clear HW HK
  go_wp2_with fail
  refine (c1.out w1).mono ?_
  rintro e w2 ⟨rfl, b2⟩
  have BF := hid (bel_on b1.out b2)
  clear b2 e2 e3 e4 e5 e6 e7 c1 b1
  by_cases g1 : D < 0
  · have K : Hid (R = 5) := hid (by rw [HR.out, if_pos (by omega)])
    go_wp2
    go_ret
    exact ⟨ret_i K.out.symm, BF.out⟩
  by_cases g2 : 4000 < D + 1
  · have K : Hid (R = 6) := hid (by rw [HR.out, if_neg (by omega), if_pos g2])
    go_wp2
    go_ret
    exact ⟨ret_i K.out.symm, BF.out⟩
  · have K : Hid (R = 0) := hid (by rw [HR.out, if_neg (by omega), if_neg g2])
    go_wp2
    go_ret
    exact ⟨ret_i K.out.symm, BF.out⟩
set_option maxHeartbeats 4000000 in
theorem below_any (n : Int) (b : Bool) (w : World) : Calls Try.prog 20 #[.int .i64 n, .bool b] w fun e w' => e = .returned (.tuple #[.int .i64 ((lim n b).getD 0), .bool (lim n b).isSome]) ∧ w' = w := by
  cases b with
  | false =>
    have E : Hid (lim n false = none) := hid (lim_f rfl)
    go_enter Try.func20, Try.ntmps20
    go_wp2
    go_ret2
    exact ⟨ret_n E.out, rfl⟩
  | true =>
    by_cases hg : 1152921504606846976 ≤ n
    · have E : Hid (lim n true = none) := hid (lim_g hg)
      go_enter Try.func20, Try.ntmps20
      go_wp2
      go_ret2
      exact ⟨ret_n E.out, rfl⟩
    · have E : Hid (lim n true = some n) := hid (lim_t rfl (by unfold maxBound; omega))
      go_enter Try.func20, Try.ntmps20
      go_wp2
      go_ret2
      exact ⟨ret_v E.out, rfl⟩
set_option maxHeartbeats 4000000 in
set_option maxRecDepth 100000 in
theorem greatest_any (l : List Tier) (ta : Option Addr) (tc : Nat) (w : World) (hx : Row tTier w ta l.length tc l) :
    Calls Try.prog 49 #[.slice ta l.length tc] w fun e w' => e = .returned (.int .i64 (topRate l)) ∧ Below w.heap.size w w' := by
  obtain ⟨n, hn⟩ : ∃ n, n = l.length := ⟨_, rfl⟩
  have u1 := hx.hcap
  have u2 := hx.hmax
  obtain ⟨R, hR⟩ : ∃ R, R = topRate l := ⟨_, rfl⟩
  rw [← hR]
  have HR := hid hR
  rw [← hn] at hx u1 ⊢
  have HX := hid hx
  have HN := hid hn
  clear hR hx hn
  go_enter Try.func49, Try.ntmps49
  go_wp2
  go_loopw [3, 8] (fun v i wr => ∃ (i' : Nat), v = .int .i64 (topRate (l.take i')) ∧ i = .int .i64 (i' : Int) ∧ i' ≤ n ∧ Hid (Below w.heap.size w wr)) (fun _ i _ => n - (intOf i).toNat)
  case atStart => exact ⟨0, rfl, rfl, Nat.zero_le _, hid (Below.refl _ _)⟩
  case round =>
    obtain ⟨i', rfl, rfl, hi, hB⟩ := hrel
    by_cases hlt : i' < n
    · obtain ⟨t, hti⟩ : ∃ m, l[i']? = some m := ⟨_, List.getElem?_eq_getElem (by have := HN.out; omega)⟩
      have ST := hid (topRate_step hti)
      obtain ⟨b, o, e, lb, a0, a1, _⟩ := tier_at (HX.out.on hB.out) hti
      have B2 := hid (bel_on hB.out (bel_alloc _ (.cells [.int .i64 t.upto, .int .i64 t.rate].toArray 96)))
      obtain ⟨tr, htr⟩ : ∃ x, x = topRate (l.take i') := ⟨_, rfl⟩
      rw [← htr] at ST ⊢
      clear hti htr
      subst e
      go_wp2
      go_roundw
      case rel => exact ⟨i' + 1, by rw [ST.out], by simp, by omega, B2⟩
      case measure => simp [intOf]; omega
    · obtain rfl : i' = n := by omega
      have ET : Hid (topRate (l.take i') = R) := hid (by rw [HN.out, List.take_length, HR.out])
      go_wp2
      go_ret
      exact ⟨ret_i ET.out, hB.out⟩
set_option maxHeartbeats 4000000 in
set_option maxRecDepth 100000 in
theorem rising_any (l : List Tier) (ta : Option Addr) (tc : Nat) (w : World) (hx : Row tTier w ta l.length tc l) (hl : l.length ≤ 100000) :
    Calls Try.prog 35 #[.slice ta l.length tc] w fun e w' => e = .returned (.bool (risesB 0 l)) ∧ Below w.heap.size w w' := by
  obtain ⟨n, hn⟩ : ∃ n, n = l.length := ⟨_, rfl⟩
  have u1 := hx.hcap
  have u2 := hx.hmax
  obtain ⟨R, hR⟩ : ∃ R, R = risesB 0 l := ⟨_, rfl⟩
  rw [← hR]
  have HR := hid hR
  rw [← hn] at hx u1 hl ⊢
  have HX := hid hx
  have HN := hid hn
  have hl1 : (n : Int) ≤ 100000 := by omega
  clear hR hx hn hl
  go_enter Try.func35, Try.ntmps35
  go_wp2
  go_loopw [3, 8] (fun v i wr => ∃ (i' : Nat) (u : Int), v = .int .i64 u ∧ i = .int .i64 (i' : Int) ∧ i' ≤ n ∧ 0 ≤ u ∧ Hid (R = risesB u (l.drop i')) ∧ Hid (Below w.heap.size w wr)) (fun _ i _ => n - (intOf i).toNat)
  case atStart => exact ⟨0, 0, rfl, rfl, Nat.zero_le _, Int.le_refl _, hid HR.out, hid (Below.refl _ _)⟩
  case round =>
    obtain ⟨i', u, rfl, rfl, hi, hu, hE, hB⟩ := hrel
    by_cases hlt : i' + 1 < n
    · obtain ⟨t, hti⟩ : ∃ m, l[i']? = some m := ⟨_, List.getElem?_eq_getElem (by have := HN.out; omega)⟩
      have st := rises_step (u := u) hti (by have := HN.out; omega)
      obtain ⟨b, o, e, lb, a0, a1, _⟩ := tier_at (HX.out.on hB.out) hti
      have lt1 : i' < n := by omega
      subst e
      by_cases hg : t.upto ≤ u
      · have K : Hid (R = false) := hid (by rw [hE.out, st, show decide (u < t.upto) = false from decide_eq_false (by omega), Bool.and_false]; rfl)
        clear hti st hE a1
        go_wp2
        go_ret
        exact ⟨ret_b K.out.symm, hB.out⟩
      · have K : Hid (R = risesB t.upto (l.drop (i' + 1))) := hid (by rw [hE.out, st, show decide (1 ≤ t.upto) = true from decide_eq_true (by omega), show decide (u < t.upto) = true from decide_eq_true (by omega)]; rfl)
        have t0 : 0 ≤ t.upto := by omega
        clear hti st hE a1
        go_wp2
        go_roundw
        case rel => exact ⟨i' + 1, t.upto, rfl, by simp, by omega, t0, K, hB⟩
        case measure => simp [intOf]; omega
    · have K : Hid (R = true) := hid (by rw [hE.out, rises_stop (by have := HN.out; omega)])
      clear hE
      go_wp2
      go_ret
      exact ⟨ret_b K.out.symm, hB.out⟩
end Go.Proofs.Ytcbeocpllnmcjaa.Cc
/- Package tree, walked: a meter, a fee without its place; whether two are one. -/
namespace Go.Proofs.Ytcbeocpllnmcjaa.Te
open Go.RowKit Go.Sort P Mm Tl
theorem bel_alloc2 (w : World) (x y : Obj) : Below w.heap.size w ((w.alloc x).alloc y) := bel_on (bel_alloc w x) (bel_alloc _ y)
end Go.Proofs.Ytcbeocpllnmcjaa.Te
/- Package tree, walked: charges held against each other. -/
namespace Go.Proofs.Ytcbeocpllnmcjaa.Te
open Go.RowKit Go.Sort P Mm R6 Tl
theorem cell1 {w : World} {a : List Value} {t : TypeId} {j : Nat} {v : Value} (h : a[j]? = some v) : (w.alloc (.cells a.toArray t)).cell? ⟨w.heap.size, j, none⟩ = some v := by
  rw [World.cell?_alloc_new]
  simpa using h
theorem cell2b {w : World} {a b : List Value} {t u : TypeId} {j : Nat} {v : Value} (h : b[j]? = some v) : ((w.alloc (.cells a.toArray t)).alloc (.cells b.toArray u)).cell? ⟨w.heap.size + 1, j, none⟩ = some v := by
  have := cell1 (w := w.alloc (.cells a.toArray t)) (t := u) h
  rwa [show (w.alloc (.cells a.toArray t)).heap.size = w.heap.size + 1 by simp] at this
end Go.Proofs.Ytcbeocpllnmcjaa.Te
/- Package tree, walked: Same. -/
namespace Go.Proofs.Ytcbeocpllnmcjaa.Te
open Go.RowKit Go.Sort P Mm R6 Tl
theorem str_eq {a b : ByteArray} : a.toList = b.toList ↔ a = b := by
  constructor
  · intro h
    rw [ByteArray.toList_eq, ByteArray.toList_eq] at h
    exact ByteArray.ext (Array.toList_inj.1 h)
  · rintro rfl; rfl
end Go.Proofs.Ytcbeocpllnmcjaa.Te
/- Package tree, walked: Meter. -/
namespace Go.Proofs.Ytcbeocpllnmcjaa.Te
open Go.RowKit Go.Sort P Mm R6 Tl L06
theorem named_any (m : Meter) (name : ByteArray) (b : Nat) (w : World) (hk : w.cell? ⟨b, 0, none⟩ = some (.string name)) (hb : b < w.heap.size) :
    Calls Try.prog 46 #[.agg (meterC m).toArray, .pointer (some ⟨b, 0, none⟩)] w fun e w' => e = .returned (.bool (m.name.toList == name.toList)) ∧ Below w.heap.size w w' := by
  obtain ⟨w1, hw1⟩ : ∃ w1, w1 = w.alloc (.cells (meterC m).toArray 50) := ⟨_, rfl⟩
  have b1 : Below w.heap.size w w1 := by rw [hw1]; exact bel_alloc ..
  unfold meterC at hw1 ⊢
  rcases Bool.eq_false_or_eq_true (m.name.toList == name.toList) with h | h <;> rw [h]
  all_goals
    go_enter Try.func46, Try.ntmps46
    go_wp2
    go_ret
    rw [← hw1]
    exact ⟨rfl, b1⟩
set_option maxHeartbeats 4000000 in
set_option maxRecDepth 100000 in
theorem idxM_any (xs : List Meter) (ma : Option Addr) (mc : Nat) (name : ByteArray) (b : Nat) (w : World) (hx : Row tMeter w ma xs.length mc xs) (hb : b < w.heap.size) (hk : w.cell? ⟨b, 0, none⟩ = some (.string name)) :
    Calls Try.prog 59 #[.slice ma xs.length mc, .func (.func 46) #[] #[.pointer (some ⟨b, 0, none⟩)]] w fun e w' => e = .returned (.int .i64 (scan name xs 0)) ∧ Below w.heap.size w w' := by
  obtain ⟨n, hn⟩ : ∃ n, n = xs.length := ⟨_, rfl⟩
  have u1 := hx.hcap
  have u2 := hx.hmax
  obtain ⟨R, hR⟩ : ∃ R, R = scan name xs 0 := ⟨_, rfl⟩
  rw [← hR]
  have HR := hid hR
  rw [← hn] at hx u1 ⊢
  have HX := hid hx
  have HN := hid hn
  have HL := hid hb
  have HK := hid hk
  clear hR hx hn hb hk
  go_enter Try.func59, Try.ntmps59
  go_wp2
  go_loopw [8] (fun i wr => ∃ i' : Int, i = .int .i64 i' ∧ 0 ≤ i' ∧ i' ≤ n ∧ Hid (R = scan name (xs.drop i'.toNat) i') ∧ Hid (Below w.heap.size w wr)) (fun i _ => ((n : Int) - intOf i).toNat)
  case atStart => exact ⟨0, rfl, by omega, by omega, hid HR.out, hid (Below.refl _ _)⟩
  case round =>
    obtain ⟨i', rfl, i0, i1, hh, hb⟩ := hrel
    by_cases hlt : i' < n
    · obtain ⟨x, tx⟩ : ∃ x, xs[i'.toNat]? = some x := ⟨_, List.getElem?_eq_getElem (by have := HN.out; omega)⟩
      have K : Hid (R = if x.name = name then i' else scan name (xs.drop (i' + 1).toNat) (i' + 1)) := hid (by
        have := scan_drop (name := name) tx
        rw [show ((i'.toNat : Nat) : Int) = i' by omega] at this
        rw [hh.out, this, show (i' + 1).toNat = i'.toNat + 1 by omega])
      obtain ⟨bx, ox, e, lbx, x0, x1, x2, x3, x4, _⟩ := meter_at (HX.out.on hb.out) tx
      subst e
      have cS := named_any x name b wr (by rw [hb.out.cell HL.out]; exact HK.out) (Nat.lt_of_lt_of_le HL.out hb.out.size)
      unfold meterC at cS
      clear tx hh
      go_wp2_with fail
      refine cS.mono ?_
      rintro e w' ⟨rfl, b3⟩
      have HB := hid (bel_on hb.out b3)
      clear cS b3
      rcases Bool.eq_false_or_eq_true (x.name.toList == name.toList) with g | g
      · have K2 : Hid (R = i') := hid (by rw [K.out, if_pos (str_eq.1 (eq_of_beq g))])
        rw [g]
        go_wp2
        go_ret
        exact ⟨by rw [K2.out]; rfl, HB.out⟩
      · have K2 : Hid (R = scan name (xs.drop (i' + 1).toNat) (i' + 1)) := hid (by rw [K.out, if_neg (fun e => by rw [e] at g; simp at g)])
        rw [g]
        go_wp2
        go_roundw
        case rel => exact ⟨i' + 1, rfl, by omega, by omega, K2, HB⟩
        case measure => simp [intOf]; omega
    · obtain rfl : i' = n := by omega
      have K2 : Hid (R = -1) := hid (by rw [hh.out, List.drop_eq_nil_of_le (by have := HN.out; omega)]; rfl)
      go_wp2
      go_ret
      exact ⟨by rw [K2.out]; rfl, hb.out⟩
theorem findMt_any (xs : List Meter) (ma : Option Addr) (mc : Nat) (name : ByteArray) (b : Nat) (w : World) (hx : Row tMeter w ma xs.length mc xs) (hb : b < w.heap.size) (hk : w.cell? ⟨b, 0, none⟩ = some (.string name)) :
    Calls Try.prog 45 #[.slice ma xs.length mc, .func (.func 46) #[] #[.pointer (some ⟨b, 0, none⟩)]] w fun e w' => e = .returned (.int .i64 (scan name xs 0)) ∧ Below w.heap.size w w' := by
  have c := idxM_any xs ma mc name b w hx hb hk
  clear hx hb hk
  go_enter Try.func45, Try.ntmps45
  go_wp2_with fail
  refine c.mono ?_
  rintro e w' ⟨rfl, b⟩
  clear c
  go_wp2
  go_ret
  exact ⟨rfl, b⟩
set_option maxHeartbeats 4000000 in
set_option maxRecDepth 100000 in
theorem meter_any (p : Plan) (name : ByteArray) (ma : Option Addr) (mc : Nat) (fa : Option Addr) (fc : Nat) (ca : Option Addr) (cc : Nat) (w : World) (hp : PlanLies w (planC p ma mc fa fc ca cc) p ma mc fa fc ca cc) :
    Calls Try.prog 33 #[.agg (planC p ma mc fa fc ca cc).toArray, .string name] w fun e w' => e = .returned (.int .i64 (findM p name)) ∧ Below w.heap.size w w' := by
  obtain ⟨w1, hw1⟩ : ∃ w1, w1 = (w.alloc (.cells (planC p ma mc fa fc ca cc).toArray 31)).alloc (.cells #[.string name] 9) := ⟨_, rfl⟩
  have b1 : Below w.heap.size w w1 := by rw [hw1]; exact bel_alloc2 ..
  have s1 : w1.heap.size = w.heap.size + 2 := by rw [hw1]; simp
  have c := findMt_any p.meters ma mc name (w.heap.size + 1) w1 (hp.meters.on b1) (by omega) (by rw [hw1]; exact cell2b (b := [.string name]) rfl)
  rw [scan_all] at c
  have HW1 := hid hw1
  clear hw1 s1 hp
  unfold planC at HW1 ⊢
  go_enter Try.func33, Try.ntmps33
  go_wp2_with fail
  rw [← HW1.out]
  refine c.mono ?_
  rintro e w' ⟨rfl, b⟩
  clear c
  go_wp2
  go_ret
  exact ⟨rfl, bel_on b1 b⟩
end Go.Proofs.Ytcbeocpllnmcjaa.Te

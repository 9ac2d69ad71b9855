/- What math/bits.Div64 answers in this program: the quotient and the rest of 128 bits by 64. -/
import Derived.Test.YtpmibknabckboaaBits
import Derived.Test.YtpmibknabckboaaPureD
import Derived.Deep.CutBlock
import Derived.Deep.CutRange
import Derived.Deep.DeepCutAuto
import Derived.Deep.LoopGhost
namespace Go.Proofs.Ytpmibknabckboaa.Bt
open Go.RowKit P

theorem div64_low (lo y : Int) (w : World) (h2 : 0 < y) (h3 : y ≤ 18446744073709551615) (h4 : 0 ≤ lo) (h5 : lo ≤ 18446744073709551615) :
    Calls Try.prog 21 #[.int .u64 0, .int .u64 lo, .int .u64 y] w fun e w' => e = .returned (.tuple #[.int .u64 (lo / y), .int .u64 (lo % y)]) ∧ ∃ n, w' = w.drewN n := by
  have e1 : (y == 0) = false := by simp; omega
  have e2 : decide (y ≤ 0) = false := by simp; omega
  have d1 : lo.tdiv y = lo / y := Int.tdiv_eq_ediv_of_nonneg h4
  have d2 : lo.tmod y = lo % y := Int.tmod_eq_emod_of_nonneg h4
  have d3 : 0 ≤ lo / y := Int.ediv_nonneg h4 (by omega)
  have d4 : lo / y ≤ lo := Int.ediv_le_self _ h4
  have D1 : Hid (IntKind.u64.wrap (lo.tdiv y) = lo / y) := by show _ = _; rw [d1]; exact u64_in d3 (by omega)
  have D2 := hid d2
  clear d1 d2 d3 d4 h3 h4 h5
  go_enter Try.func21, Try.ntmps21
  go_wp2
  go_quiet (fail)
  go_wp2
  go_ret2
  exact ⟨by rw [D1.out, D2.out]; rfl, _, rfl⟩

set_option maxHeartbeats 1000000 in
theorem div64_big (hi lo y : Int) (w : World) (h1 : 0 < hi) (h2 : hi < y) (h3 : y ≤ 18446744073709551615) (h4 : 0 ≤ lo) (h5 : lo ≤ 18446744073709551615) :
    Calls Try.prog 21 #[.int .u64 hi, .int .u64 lo, .int .u64 y] w fun e w' => e = .returned (.tuple #[.int .u64 ((hi * 18446744073709551616 + lo) / y), .int .u64 ((hi * 18446744073709551616 + lo) % y)]) ∧ w = w' := by
  have e1 : (y == 0) = false := by simp; omega
  have e2 : decide (y ≤ hi) = false := by simp; omega
  have e3 : (hi == 0) = false := by simp; omega
  go_enter Try.func21, Try.ntmps21
  go_upto_block 0 with (go_at_call 32; refine (lead_ex _ _ (by omega) h3).mono ?_; rintro e w' ⟨s, hs, n1, n2, rfl, rfl⟩)
  obtain ⟨u, y1, y0, c1, c0, f1, f2, f3, f4, f5, f6, f7, f8, f9, g1, g2, g3, g4, g5, g6, g7, g8⟩ := div_front h1 h2 h4 h5 hs n1 n2
  rw [f1, f2, f3, f4, f5]
  have F7 := hid f7
  have F6 := hid f6
  have N1 := hid n1
  have N2 := hid n2
  have d1 : IntKind.u64.wrap (u.tdiv y1) = u / y1 := by
    rw [Int.tdiv_eq_ediv_of_nonneg f8]
    exact u64_in (Int.ediv_nonneg f8 (by omega)) (by have := Int.ediv_le_self y1 f8; omega)
  have d2 : IntKind.u64.wrap (u - IntKind.u64.wrap (u / y1 * y1)) = u % y1 := by
    have a1 := Int.mul_ediv_add_emod u y1
    have a2 := Int.emod_nonneg u (show y1 ≠ 0 by omega)
    have a3 := Int.emod_lt_of_pos u (show 0 < y1 by omega)
    rw [Int.mul_comm] at a1
    rw [u64_mod, u64_mod]
    omega
  rw [d1, d2]
  obtain ⟨Q1, R1, q1, q2, q3⟩ : ∃ Q R : Int, u * 4294967296 + c1 = Q * (y1 * 4294967296 + y0) + R ∧ 0 ≤ R ∧ R < y1 * 4294967296 + y0 :=
    ⟨(u * 4294967296 + c1) / (y1 * 4294967296 + y0), (u * 4294967296 + c1) % (y1 * 4294967296 + y0), by have := Int.mul_ediv_add_emod (u * 4294967296 + c1) (y1 * 4294967296 + y0); rw [Int.mul_comm] at this; omega, Int.emod_nonneg _ (by omega), Int.emod_lt_of_pos _ (by omega)⟩
  have S1 : Hid (Step u y1 y0 c1 Q1) := ⟨g1, g2, g3, g4, g5, g6, f8, by omega, by omega, by omega⟩
  rw [f6] 
  clear f1 f2 f3 f4 f5 f6 f7 d1 d2 n1 n2
  go_cut [15, 16] (fun q _r wx => q = .int .u64 Q1 ∧ w = wx)
  case first =>
    go_wp2_with fail
    go_loop [15, 16] (fun q r => ∃ q' r' : Int, q = .int .u64 q' ∧ r = .int .u64 r' ∧ Hid (Guess u y1 y0 c1 Q1 q' r')) (fun q _ => (intOf q).toNat)
    case atStart => exact ⟨_, _, rfl, rfl, S1.out.start⟩
    case round =>
      obtain ⟨q, r, rfl, rfl, G⟩ := hrel
      have r0 := G.out.r0
      have r1 := G.out.r1
      have k0 := S1.out.small.1
      have k1 := G.out.le
      have k2 := G.out.top
      by_cases hq : 4294967296 ≤ q
      · have hlt := S1.out.big G.out hq
        by_cases hr : 4294967296 ≤ r + y1
        · have E := hid (G.out.last S1.out hlt hr)
          go_wp2
          go_meet
          exact ⟨by rw [E.out], rfl⟩
        · have G2 := hid (G.out.next S1.out hlt (by omega))
          go_wp2
          go_round
          case rel => exact ⟨q - 1, r + y1, rfl, rfl, G2.out⟩
          case measure => simp [intOf]; omega
      · obtain ⟨p0, p1, p2⟩ := S1.out.fits G.out (by omega)
        by_cases hc : 4294967296 * r + c1 < q * y0
        · have hlt := S1.out.yes G.out.eq hc
          by_cases hr : 4294967296 ≤ r + y1
          · have E := hid (G.out.last S1.out hlt hr)
            go_wp2
            go_meet
            exact ⟨by rw [E.out], rfl⟩
          · have G2 := hid (G.out.next S1.out hlt (by omega))
            go_wp2
            go_round
            case rel => exact ⟨q - 1, r + y1, rfl, rfl, G2.out⟩
            case measure => simp [intOf]; omega
        · have E := hid (G.out.done S1.out (by omega))
          go_wp2
          go_meet
          exact ⟨by rw [E.out], rfl⟩
  case rest =>
    obtain ⟨rfl, rfl⟩ := hcut
    go_upto_block 2 with fail
    have g9 := F6.out
    have g10 := N2.out
    rw [mid q1 q2 (by omega), quot_wrap q2 (by omega) (by omega), rest_wrap q2 (by omega) (by omega)]
    obtain ⟨Q2, R2, p1, p2, p3⟩ := cut_num (R1 * 4294967296 + c0) (y1 * 4294967296 + y0) (by omega)
    have S2 : Hid (Step R1 y1 y0 c0 Q2) := ⟨g1, g2, g3, g4, g7, g8, q2, q3, by omega, by omega⟩
    have P1 := hid p1
    have Q1' := hid q1
    clear p1 q1 g9 g10
    go_cut [18, 16] (fun q _r wx => q = .int .u64 Q2 ∧ w = wx)
    case first =>
      go_wp2_with fail
      go_loop [18, 16] (fun q r => ∃ q' r' : Int, q = .int .u64 q' ∧ r = .int .u64 r' ∧ Hid (Guess R1 y1 y0 c0 Q2 q' r')) (fun q _ => (intOf q).toNat)
      case atStart => exact ⟨_, _, rfl, rfl, S2.out.start⟩
      case round =>
        obtain ⟨q, r, rfl, rfl, G⟩ := hrel
        have r0 := G.out.r0
        have r1 := G.out.r1
        have k0 := S2.out.small.1
        have k1 := G.out.le
        have k2 := G.out.top
        by_cases hq : 4294967296 ≤ q
        · have hlt := S2.out.big G.out hq
          by_cases hr : 4294967296 ≤ r + y1
          · have E := hid (G.out.last S2.out hlt hr)
            go_wp2
            go_meet
            exact ⟨by rw [E.out], rfl⟩
          · have G2 := hid (G.out.next S2.out hlt (by omega))
            go_wp2
            go_round
            case rel => exact ⟨q - 1, r + y1, rfl, rfl, G2.out⟩
            case measure => simp [intOf]; omega
        · obtain ⟨p0, p1, p2⟩ := S2.out.fits G.out (by omega)
          by_cases hc : 4294967296 * r + c0 < q * y0
          · have hlt := S2.out.yes G.out.eq hc
            by_cases hr : 4294967296 ≤ r + y1
            · have E := hid (G.out.last S2.out hlt hr)
              go_wp2
              go_meet
              exact ⟨by rw [E.out], rfl⟩
            · have G2 := hid (G.out.next S2.out hlt (by omega))
              go_wp2
              go_round
              case rel => exact ⟨q - 1, r + y1, rfl, rfl, G2.out⟩
              case measure => simp [intOf]; omega
          · have E := hid (G.out.done S2.out (by omega))
            go_wp2
            go_meet
            exact ⟨by rw [E.out], rfl⟩
    case rest =>
      obtain ⟨rfl, rfl⟩ := hcut
      go_wp2
      have a1 := S1.out.small
      have a2 := S2.out.small
      have g9 := F6.out
      have g10 := N2.out
      obtain ⟨b1, b2⟩ := div_back (Int.pow_pos (by omega) : (0 : Int) < 2 ^ s) (by omega : 0 < y) F6.out F7.out Q1'.out P1.out p2 p3
      rw [quot_join a1.1 a1.2 a2.1 a2.2, mid P1.out p2 (by omega), b1, b2]
      go_ret2
      exact ⟨rfl, rfl⟩
theorem div64_any (hi lo y : Int) (w : World) (h1 : 0 ≤ hi) (h2 : hi < y) (h3 : y ≤ 18446744073709551615) (h4 : 0 ≤ lo) (h5 : lo ≤ 18446744073709551615) :
    Calls Try.prog 21 #[.int .u64 hi, .int .u64 lo, .int .u64 y] w fun e w' => e = .returned (.tuple #[.int .u64 ((hi * 18446744073709551616 + lo) / y), .int .u64 ((hi * 18446744073709551616 + lo) % y)]) ∧ ∃ n, w' = w.drewN n := by
  by_cases h : hi = 0
  · subst h
    rw [Int.zero_mul, Int.zero_add]
    exact div64_low lo y w h2 h3 h4 h5
  · refine (div64_big hi lo y w (by omega) h2 h3 h4 h5).mono ?_
    rintro e w' ⟨rfl, rfl⟩
    exact ⟨rfl, 0, rfl⟩
end Go.Proofs.Ytpmibknabckboaa.Bt

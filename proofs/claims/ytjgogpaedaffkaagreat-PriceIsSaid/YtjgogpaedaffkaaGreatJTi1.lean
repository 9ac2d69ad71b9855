/- What math/bits answers in this program: Mul64, Len64, LeadingZeros64: contracts over the walked program. -/
import Derived.Test.YtjgogpaedaffkaaGreatJPureS
import Derived.Test.YtjgogpaedaffkaaGreatRows
import Derived.WalkKit
import Derived.ProofKit
import Derived.BigQuiet
import Derived.Deep.QuietTactic
import Derived.Lib.Strings
import Derived.Lib.Small
import Derived.Lib.Walk
import Derived.Lib.BitFns
import Derived.Deep.CutBlock
import Derived.Deep.CutRange
import Derived.Deep.DeepCutAuto
import Derived.Deep.LoopGhost
import Derived.Test.YtjgogpaedaffkaaGreatJRef2
import Derived.Test.YtjgogpaedaffkaaGreatJLexJ
import Derived.Test.YtjgogpaedaffkaaGreatJL06d
import Derived.Deep.RegionHeldLaw
import Derived.Deep.RegionHeld3
import Derived.Test.YtjgogpaedaffkaaGreatJRef6
import Derived.Deep.MidRow
import Derived.Deep.WholeRow
import Derived.Deep.Onto
import Derived.OwnWalk
import Derived.Lib.SliceRun
import Derived.Test.YtjgogpaedaffkaaGreatJL11g
import Derived.Lib.QuietBelowIn
namespace Go.Proofs.YtjgogpaedaffkaaGreat.P
end Go.Proofs.YtjgogpaedaffkaaGreat.P
namespace Go.Proofs.YtjgogpaedaffkaaGreat.Ex
end Go.Proofs.YtjgogpaedaffkaaGreat.Ex
namespace Go.Proofs.YtjgogpaedaffkaaGreat.Bt
end Go.Proofs.YtjgogpaedaffkaaGreat.Bt
namespace Go.Proofs.YtjgogpaedaffkaaGreat.Mm
end Go.Proofs.YtjgogpaedaffkaaGreat.Mm
namespace Go.Proofs.YtjgogpaedaffkaaGreat.R6
end Go.Proofs.YtjgogpaedaffkaaGreat.R6
namespace Go.Proofs.YtjgogpaedaffkaaGreat.Tl
end Go.Proofs.YtjgogpaedaffkaaGreat.Tl
namespace Go.Proofs.YtjgogpaedaffkaaGreat.L06
end Go.Proofs.YtjgogpaedaffkaaGreat.L06
namespace Go.Proofs.YtjgogpaedaffkaaGreat.Md
end Go.Proofs.YtjgogpaedaffkaaGreat.Md
namespace Go.Proofs.YtjgogpaedaffkaaGreat.Te
end Go.Proofs.YtjgogpaedaffkaaGreat.Te
namespace Go.Proofs.YtjgogpaedaffkaaGreat.Co
end Go.Proofs.YtjgogpaedaffkaaGreat.Co
namespace Go.Proofs.YtjgogpaedaffkaaGreat.R10
end Go.Proofs.YtjgogpaedaffkaaGreat.R10
namespace Go.Proofs.YtjgogpaedaffkaaGreat.R11
end Go.Proofs.YtjgogpaedaffkaaGreat.R11
namespace Go.Proofs.YtjgogpaedaffkaaGreat.L11
end Go.Proofs.YtjgogpaedaffkaaGreat.L11
namespace Go.Proofs.YtjgogpaedaffkaaGreat.Bt
open Go.RowKit P
theorem mask_any {n : Int} : bits .and .u64 (IntKind.u64.wrap n) 4294967295 = IntKind.u64.wrap n % 4294967296 := and32 (by rw [u64_mod]; omega) (by rw [u64_mod]; omega)
/-- The product's upper half, out of four products of halves. -/
theorem upper_half (X Y : Int) (x0 : 0 ≤ X) (x1 : X < 18446744073709551616) (y0 : 0 ≤ Y) (y1 : Y < 18446744073709551616) :
    IntKind.u64.wrap (IntKind.u64.wrap (IntKind.u64.wrap (X / 4294967296 * (Y / 4294967296)) + IntKind.u64.wrap (IntKind.u64.wrap (X / 4294967296 * (Y % 4294967296)) + IntKind.u64.wrap (X % 4294967296 * (Y % 4294967296)) / 4294967296) / 4294967296) +
      IntKind.u64.wrap (IntKind.u64.wrap (IntKind.u64.wrap (X / 4294967296 * (Y % 4294967296)) + IntKind.u64.wrap (X % 4294967296 * (Y % 4294967296)) / 4294967296) % 4294967296 + IntKind.u64.wrap (X % 4294967296 * (Y / 4294967296))) / 4294967296) = X * Y / 18446744073709551616 := by
  have le : ∀ a b : Int, 0 ≤ a → a ≤ 4294967295 → 0 ≤ b → b ≤ 4294967295 → 0 ≤ a * b ∧ a * b ≤ 18446744065119617025 := fun a b h1 h2 h3 h4 => by
    have h5 := Int.mul_le_mul h2 h4 h3 (by omega : (0 : Int) ≤ 4294967295)
    exact ⟨Int.mul_nonneg h1 h3, by omega⟩
  have e : X * Y = X / 4294967296 * (Y / 4294967296) * 18446744073709551616 + (X / 4294967296 * (Y % 4294967296) + X % 4294967296 * (Y / 4294967296)) * 4294967296 + X % 4294967296 * (Y % 4294967296) := by
    have hx := Int.mul_ediv_add_emod X 4294967296
    have hy := Int.mul_ediv_add_emod Y 4294967296
    have key : ∀ a b c d : Int, (4294967296 * a + b) * (4294967296 * c + d) = a * c * 18446744073709551616 + (a * d + b * c) * 4294967296 + b * d := by intro a b c d; grind
    have := key (X / 4294967296) (X % 4294967296) (Y / 4294967296) (Y % 4294967296)
    rw [hx, hy] at this
    exact this
  have p1 := le (X / 4294967296) (Y / 4294967296) (by omega) (by omega) (by omega) (by omega)
  have p2 := le (X / 4294967296) (Y % 4294967296) (by omega) (by omega) (by omega) (by omega)
  have p3 := le (X % 4294967296) (Y / 4294967296) (by omega) (by omega) (by omega) (by omega)
  have p4 := le (X % 4294967296) (Y % 4294967296) (by omega) (by omega) (by omega) (by omega)
  rw [e]
  generalize X / 4294967296 * (Y / 4294967296) = A at *
  generalize X / 4294967296 * (Y % 4294967296) = B at *
  generalize X % 4294967296 * (Y / 4294967296) = C at *
  generalize X % 4294967296 * (Y % 4294967296) = D at *
  simp only [u64_mod]
  clear e le x0 x1 y0 y1
  omega
theorem mul64_int (X Y : Int) (x0 : 0 ≤ X) (x1 : X < 18446744073709551616) (y0 : 0 ≤ Y) (y1 : Y < 18446744073709551616) (w : World) :
    Calls Tryz.prog 127 #[.int .u64 X, .int .u64 Y] w fun e w' => e = .returned (.tuple #[.int .u64 (X * Y / 18446744073709551616), .int .u64 (IntKind.u64.wrap (X * Y))]) ∧ w = w' := by
  have E := hid (upper_half X Y x0 x1 y0 y1)
  have EX := hid (and32 x0 x1)
  have EY := hid (and32 y0 y1)
  clear x0 x1 y0 y1
  go_enter Tryz.func127, Tryz.ntmps127
  go_wp2
  rw [EX.out, EY.out, mask_any, E.out]
  go_ret2
  exact ⟨rfl, rfl⟩
theorem mul64_any (x y : Nat) (hx : x < 18446744073709551616) (hy : y < 18446744073709551616) (w : World) :
    Calls Tryz.prog 127 #[.int .u64 x, .int .u64 y] w fun e w' => e = .returned (.tuple #[.int .u64 (hiN (x * y)), .int .u64 (loN (x * y))]) ∧ w = w' := by
  have h := mul64_int x y (by omega) (by omega) (by omega) (by omega) w
  have e1 : (x : Int) * y / 18446744073709551616 = (hiN (x * y) : Int) := by rw [← Int.natCast_mul]; unfold hiN; omega
  have e2 : IntKind.u64.wrap ((x : Int) * y) = (loN (x * y) : Int) := by rw [← Int.natCast_mul, u64_mod]; unfold loN; omega
  rw [e1, e2] at h
  exact h
theorem tab_len (n : Nat) (h : n < Lib.len8tab.size) : (Lib.len8tab[n]'h).toNat = Lib.bitLen n := by
  have h2 : n < 256 := by rw [Lib.len8tab_size] at h; exact h
  have e := Lib.len8_eq ⟨n, h2⟩
  simp only [Lib.len8, Int.toNat_natCast, ByteArray.getElem?_lt' _ _ h, Option.getD_some] at e
  omega
theorem tab_le (n : Nat) (h : n < Lib.len8tab.size) : Lib.bitLen n ≤ 8 := by
  have h2 : n < 256 := by rw [Lib.len8tab_size] at h; exact h
  exact Lib.bitLen_le8 ⟨n, h2⟩
theorem len_close {k : Nat} {x d : Int} {e : Int} (h : d.toNat < Lib.len8tab.size) (hk : e = k) (h1 : x ≤ 18446744073709551615) (h0 : 0 ≤ x) (hx : 2 ^ k ≤ x.toNat) (hd : d.toNat = x.toNat / 2 ^ k) (k56 : k ≤ 56) :
    wrap64 (e + wrap64 ((Lib.len8tab[d.toNat]'h).toNat : Int)) = (Lib.bitLen x.toNat : Int) := by
  rw [tab_len, Lib.bitLen_shift k x.toNat hx (by omega), ← hd]
  have := tab_le _ h
  unfold wrap64
  omega
theorem len_close0 {x : Int} (h : x.toNat < Lib.len8tab.size) : wrap64 (wrap64 ((Lib.len8tab[x.toNat]'h).toNat : Int)) = (Lib.bitLen x.toNat : Int) := by
  rw [tab_len]
  have := tab_le _ h
  unfold wrap64
  omega
set_option maxHeartbeats 4000000 in
set_option maxRecDepth 100000 in
theorem len64_int (x : Int) (w : World) (h0 : 0 ≤ x) (h1 : x ≤ 18446744073709551615) :
    Calls Tryz.prog 139 #[.int .u64 x] w fun e w' => e = .returned (.int .i64 (Lib.bitLen x.toNat)) ∧ w = w' := by
  have hs := Lib.len8tab_size
  go_enter Tryz.func139, Tryz.ntmps139
  go_wp2
  all_goals first
    | (exfalso; omega)
    | (go_ret
       refine ⟨congrArg Ending.returned (congrArg (Value.int IntKind.i64) ?_), rfl⟩
       first
         | exact len_close0 _
         | exact len_close (k := 56) _ rfl h1 h0 (by omega) (by omega) (by omega)
         | exact len_close (k := 48) _ rfl h1 h0 (by omega) (by omega) (by omega)
         | exact len_close (k := 40) _ rfl h1 h0 (by omega) (by omega) (by omega)
         | exact len_close (k := 32) _ rfl h1 h0 (by omega) (by omega) (by omega)
         | exact len_close (k := 24) _ rfl h1 h0 (by omega) (by omega) (by omega)
         | exact len_close (k := 16) _ rfl h1 h0 (by omega) (by omega) (by omega)
         | exact len_close (k := 8) _ rfl h1 h0 (by omega) (by omega) (by omega))
theorem len_bounds (x : Nat) (hx : x < 2 ^ 64) (h0 : x ≠ 0) : ∃ k, Lib.bitLen x = k + 1 ∧ 2 ^ k ≤ x ∧ x < 2 ^ (k + 1) := by
  induction x using Nat.strongRecOn with
  | ind x ih =>
    by_cases h1 : x = 1
    · subst h1; exact ⟨0, by decide, by decide, by decide⟩
    · obtain ⟨k, e, l, u⟩ := ih (x / 2) (by omega) (by omega) (by omega)
      refine ⟨k + 1, by rw [Lib.bitLen_half x h0 hx, e]; omega, ?_, ?_⟩
      · rw [Nat.pow_succ] at *; omega
      · rw [Nat.pow_succ] at *; omega
/-- How many noughts lead a number of 64 bits. -/
def lz (x : Nat) : Nat := 64 - Lib.bitLen x
theorem lz_le (x : Nat) (hx : x < 2 ^ 64) (h0 : x ≠ 0) : lz x ≤ 63 := by
  obtain ⟨k, e, _, _⟩ := len_bounds x hx h0
  unfold lz; omega
theorem lz_norm (x : Nat) (hx : x < 2 ^ 64) (h0 : x ≠ 0) : 2 ^ 63 ≤ x * 2 ^ lz x ∧ x * 2 ^ lz x < 2 ^ 64 := by
  obtain ⟨k, e, l, u⟩ := len_bounds x hx h0
  have hk : k < 64 := by
    rcases Nat.lt_or_ge k 64 with h | h
    · exact h
    · exact absurd (Nat.le_trans (Nat.pow_le_pow_right (by omega) h) l) (by omega)
  have e1 : lz x = 63 - k := by unfold lz; omega
  rw [e1]
  have p1 : (2 : Nat) ^ 63 = 2 ^ k * 2 ^ (63 - k) := by rw [← Nat.pow_add]; congr 1; omega
  have p2 : (2 : Nat) ^ 64 = 2 ^ (k + 1) * 2 ^ (63 - k) := by rw [← Nat.pow_add]; congr 1; omega
  rw [p1, p2]
  exact ⟨Nat.mul_le_mul_right _ l, Nat.mul_lt_mul_of_pos_right u (Nat.pow_pos (by omega))⟩
theorem lead_any (x : Int) (w : World) (h0 : 0 ≤ x) (h1 : x ≤ 18446744073709551615) :
    Calls Tryz.prog 138 #[.int .u64 x] w fun e w' => e = .returned (.int .i64 (64 - (Lib.bitLen x.toNat : Int))) ∧ w = w' := by
  have hl : Lib.bitLen x.toNat ≤ 64 := Lib.bitLen_le _ _ (Nat.le_refl _) (by omega)
  have E : Hid (wrap64 (64 - (Lib.bitLen x.toNat : Int)) = 64 - (Lib.bitLen x.toNat : Int)) := by show _ = _; unfold wrap64; omega
  clear hl
  go_enter Tryz.func138, Tryz.ntmps138
  go_wp2_with (go_at_call 139; refine (len64_int _ _ h0 h1).mono ?_; rintro e w' ⟨rfl, rfl⟩)
  go_ret
  exact ⟨by rw [E.out]; rfl, rfl⟩
theorem lead_ex (x : Int) (w : World) (h0 : 0 < x) (h1 : x ≤ 18446744073709551615) :
    Calls Tryz.prog 138 #[.int .u64 x] w fun e w' => ∃ s : Nat, s ≤ 63 ∧ 9223372036854775808 ≤ x * 2 ^ s ∧ x * 2 ^ s < 18446744073709551616 ∧ e = .returned (.int .i64 s) ∧ w = w' := by
  have hx : x.toNat < 2 ^ 64 := by omega
  have hn : x.toNat ≠ 0 := by omega
  have hl : Lib.bitLen x.toNat ≤ 64 := Lib.bitLen_le _ _ (Nat.le_refl _) hx
  have h2 := lz_norm x.toNat hx hn
  have e2 : ((x.toNat * 2 ^ lz x.toNat : Nat) : Int) = x * 2 ^ lz x.toNat := by
    rw [Int.natCast_mul, Int.natCast_pow, Int.toNat_of_nonneg (by omega)]; rfl
  refine (lead_any x w (by omega) h1).mono ?_
  rintro e w' ⟨rfl, rfl⟩
  refine ⟨lz x.toNat, lz_le _ hx hn, by omega, by omega, ?_, rfl⟩
  rw [show ((lz x.toNat : Nat) : Int) = 64 - (Lib.bitLen x.toNat : Int) by unfold lz; omega]
end Go.Proofs.YtjgogpaedaffkaaGreat.Bt
/- What math/bits.Div64 answers in this program: the quotient and the rest of 128 bits by 64. -/
namespace Go.Proofs.YtjgogpaedaffkaaGreat.Bt
open Go.RowKit P
theorem div64_low (lo y : Int) (w : World) (h2 : 0 < y) (h3 : y ≤ 18446744073709551615) (h4 : 0 ≤ lo) (h5 : lo ≤ 18446744073709551615) :
    Calls Tryz.prog 129 #[.int .u64 0, .int .u64 lo, .int .u64 y] w fun e w' => e = .returned (.tuple #[.int .u64 (lo / y), .int .u64 (lo % y)]) ∧ ∃ n, w' = w.drewN n := by
  have e1 : (y == 0) = false := by simp; omega
  have e2 : decide (y ≤ 0) = false := by simp; omega
  have d1 : lo.tdiv y = lo / y := Int.tdiv_eq_ediv_of_nonneg h4
  have d2 : lo.tmod y = lo % y := Int.tmod_eq_emod_of_nonneg h4
  have d3 : 0 ≤ lo / y := Int.ediv_nonneg h4 (by omega)
  have d4 : lo / y ≤ lo := Int.ediv_le_self _ h4
  have D1 : Hid (IntKind.u64.wrap (lo.tdiv y) = lo / y) := by show _ = _; rw [d1]; exact u64_in d3 (by omega)
  have D2 := hid d2
  clear d1 d2 d3 d4 h3 h4 h5
  go_enter Tryz.func129, Tryz.ntmps129
  go_wp2
  go_quiet (fail)
  go_wp2
  go_ret2
  exact ⟨by rw [D1.out, D2.out]; rfl, _, rfl⟩
set_option maxHeartbeats 1000000 in
theorem div64_big (hi lo y : Int) (w : World) (h1 : 0 < hi) (h2 : hi < y) (h3 : y ≤ 18446744073709551615) (h4 : 0 ≤ lo) (h5 : lo ≤ 18446744073709551615) :
    Calls Tryz.prog 129 #[.int .u64 hi, .int .u64 lo, .int .u64 y] w fun e w' => e = .returned (.tuple #[.int .u64 ((hi * 18446744073709551616 + lo) / y), .int .u64 ((hi * 18446744073709551616 + lo) % y)]) ∧ w = w' := by
  have e1 : (y == 0) = false := by simp; omega
  have e2 : decide (y ≤ hi) = false := by simp; omega
  have e3 : (hi == 0) = false := by simp; omega
  go_enter Tryz.func129, Tryz.ntmps129
  go_upto_block 0 with (go_at_call 138; refine (lead_ex _ _ (by omega) h3).mono ?_; rintro e w' ⟨s, hs, n1, n2, rfl, rfl⟩)
  obtain ⟨u, y1, y0, c1, c0, f1, f2, f3, f4, f5, f6, f7, f8, f9, g1, g2, g3, g4, g5, g6, g7, g8⟩ := div_front h1 h2 h4 h5 hs n1 n2
  rw [f1, f2, f3, f4, f5]
  have F7 := hid f7
  have F6 := hid f6
  have N1 := hid n1
  have N2 := hid n2
  have d1 : IntKind.u64.wrap (u.tdiv y1) = u / y1 := by
    rw [Int.tdiv_eq_ediv_of_nonneg f8]
    exact u64_in (Int.ediv_nonneg f8 (by omega)) (by have := Int.ediv_le_self y1 f8; omega)
  have d2 : IntKind.u64.wrap (u - IntKind.u64.wrap (u / y1 * y1)) = u % y1 := by
    have a1 := Int.mul_ediv_add_emod u y1
    have a2 := Int.emod_nonneg u (show y1 ≠ 0 by omega)
    have a3 := Int.emod_lt_of_pos u (show 0 < y1 by omega)
    rw [Int.mul_comm] at a1
    rw [u64_mod, u64_mod]
    omega
  rw [d1, d2]
  obtain ⟨Q1, R1, q1, q2, q3⟩ : ∃ Q R : Int, u * 4294967296 + c1 = Q * (y1 * 4294967296 + y0) + R ∧ 0 ≤ R ∧ R < y1 * 4294967296 + y0 :=
    ⟨(u * 4294967296 + c1) / (y1 * 4294967296 + y0), (u * 4294967296 + c1) % (y1 * 4294967296 + y0), by have := Int.mul_ediv_add_emod (u * 4294967296 + c1) (y1 * 4294967296 + y0); rw [Int.mul_comm] at this; omega, Int.emod_nonneg _ (by omega), Int.emod_lt_of_pos _ (by omega)⟩
  have S1 : Hid (Step u y1 y0 c1 Q1) := ⟨g1, g2, g3, g4, g5, g6, f8, by omega, by omega, by omega⟩
  rw [f6] 
  clear f1 f2 f3 f4 f5 f6 f7 d1 d2 n1 n2
  go_cut [15, 16] (fun q _r wx => q = .int .u64 Q1 ∧ w = wx)
  case first =>
    go_wp2_with fail
    go_loop [15, 16] (fun q r => ∃ q' r' : Int, q = .int .u64 q' ∧ r = .int .u64 r' ∧ Hid (Guess u y1 y0 c1 Q1 q' r')) (fun q _ => (intOf q).toNat)
    case atStart => exact ⟨_, _, rfl, rfl, S1.out.start⟩
    case round =>
      obtain ⟨q, r, rfl, rfl, G⟩ := hrel
      have r0 := G.out.r0
      have r1 := G.out.r1
      have k0 := S1.out.small.1
      have k1 := G.out.le
      have k2 := G.out.top
      by_cases hq : 4294967296 ≤ q
      · have hlt := S1.out.big G.out hq
        by_cases hr : 4294967296 ≤ r + y1
        · have E := hid (G.out.last S1.out hlt hr)
          go_wp2
          go_meet
          exact ⟨by rw [E.out], rfl⟩
        · have G2 := hid (G.out.next S1.out hlt (by omega))
          go_wp2
          go_round
          case rel => exact ⟨q - 1, r + y1, rfl, rfl, G2.out⟩
          case measure => simp [intOf]; omega
      · obtain ⟨p0, p1, p2⟩ := S1.out.fits G.out (by omega)
        by_cases hc : 4294967296 * r + c1 < q * y0
        · have hlt := S1.out.yes G.out.eq hc
          by_cases hr : 4294967296 ≤ r + y1
          · have E := hid (G.out.last S1.out hlt hr)
            go_wp2
            go_meet
            exact ⟨by rw [E.out], rfl⟩
          · have G2 := hid (G.out.next S1.out hlt (by omega))
            go_wp2
            go_round
            case rel => exact ⟨q - 1, r + y1, rfl, rfl, G2.out⟩
            case measure => simp [intOf]; omega
        · have E := hid (G.out.done S1.out (by omega))
          go_wp2
          go_meet
          exact ⟨by rw [E.out], rfl⟩
  case rest =>
    obtain ⟨rfl, rfl⟩ := hcut
    go_upto_block 2 with fail
    have g9 := F6.out
    have g10 := N2.out
    rw [mid q1 q2 (by omega), quot_wrap q2 (by omega) (by omega), rest_wrap q2 (by omega) (by omega)]
    obtain ⟨Q2, R2, p1, p2, p3⟩ := cut_num (R1 * 4294967296 + c0) (y1 * 4294967296 + y0) (by omega)
    have S2 : Hid (Step R1 y1 y0 c0 Q2) := ⟨g1, g2, g3, g4, g7, g8, q2, q3, by omega, by omega⟩
    have P1 := hid p1
    have Q1' := hid q1
    clear p1 q1 g9 g10
    go_cut [18, 16] (fun q _r wx => q = .int .u64 Q2 ∧ w = wx)
    case first =>
      go_wp2_with fail
      go_loop [18, 16] (fun q r => ∃ q' r' : Int, q = .int .u64 q' ∧ r = .int .u64 r' ∧ Hid (Guess R1 y1 y0 c0 Q2 q' r')) (fun q _ => (intOf q).toNat)
      case atStart => exact ⟨_, _, rfl, rfl, S2.out.start⟩
      case round =>
        obtain ⟨q, r, rfl, rfl, G⟩ := hrel
        have r0 := G.out.r0
        have r1 := G.out.r1
        have k0 := S2.out.small.1
        have k1 := G.out.le
        have k2 := G.out.top
        by_cases hq : 4294967296 ≤ q
        · have hlt := S2.out.big G.out hq
          by_cases hr : 4294967296 ≤ r + y1
          · have E := hid (G.out.last S2.out hlt hr)
            go_wp2
            go_meet
            exact ⟨by rw [E.out], rfl⟩
          · have G2 := hid (G.out.next S2.out hlt (by omega))
            go_wp2
            go_round
            case rel => exact ⟨q - 1, r + y1, rfl, rfl, G2.out⟩
            case measure => simp [intOf]; omega
        · obtain ⟨p0, p1, p2⟩ := S2.out.fits G.out (by omega)
          by_cases hc : 4294967296 * r + c0 < q * y0
          · have hlt := S2.out.yes G.out.eq hc
            by_cases hr : 4294967296 ≤ r + y1
            · have E := hid (G.out.last S2.out hlt hr)
              go_wp2
              go_meet
              exact ⟨by rw [E.out], rfl⟩
            · have G2 := hid (G.out.next S2.out hlt (by omega))
              go_wp2
              go_round
              case rel => exact ⟨q - 1, r + y1, rfl, rfl, G2.out⟩
              case measure => simp [intOf]; omega
          · have E := hid (G.out.done S2.out (by omega))
            go_wp2
            go_meet
            exact ⟨by rw [E.out], rfl⟩
    case rest =>
      obtain ⟨rfl, rfl⟩ := hcut
      go_wp2
      have a1 := S1.out.small
      have a2 := S2.out.small
      have g9 := F6.out
      have g10 := N2.out
      obtain ⟨b1, b2⟩ := div_back (Int.pow_pos (by omega) : (0 : Int) < 2 ^ s) (by omega : 0 < y) F6.out F7.out Q1'.out P1.out p2 p3
      rw [quot_join a1.1 a1.2 a2.1 a2.2, mid P1.out p2 (by omega), b1, b2]
      go_ret2
      exact ⟨rfl, rfl⟩
theorem div64_any (hi lo y : Int) (w : World) (h1 : 0 ≤ hi) (h2 : hi < y) (h3 : y ≤ 18446744073709551615) (h4 : 0 ≤ lo) (h5 : lo ≤ 18446744073709551615) :
    Calls Tryz.prog 129 #[.int .u64 hi, .int .u64 lo, .int .u64 y] w fun e w' => e = .returned (.tuple #[.int .u64 ((hi * 18446744073709551616 + lo) / y), .int .u64 ((hi * 18446744073709551616 + lo) % y)]) ∧ ∃ n, w' = w.drewN n := by
  by_cases h : hi = 0
  · subst h
    rw [Int.zero_mul, Int.zero_add]
    exact div64_low lo y w h2 h3 h4 h5
  · refine (div64_big hi lo y w (by omega) h2 h3 h4 h5).mono ?_
    rintro e w' ⟨rfl, rfl⟩
    exact ⟨rfl, 0, rfl⟩
end Go.Proofs.YtjgogpaedaffkaaGreat.Bt
/- What each call of package round answers, for all numbers of 64 bits. -/
namespace Go.Proofs.YtjgogpaedaffkaaGreat.Rd
open Go.RowKit P Ex Bt
theorem size_any (n : Int) (w : World) (hn : I64 n) :
    Calls Tryz.prog 128 #[.int .i64 n] w fun e w' => e = .returned (.int .u64 (n.natAbs : Int)) ∧ w = w' := by
  by_cases h : n < 0
  · have E : Hid (IntKind.u64.wrap (-IntKind.u64.wrap n) = (n.natAbs : Int)) := by
      show _ = _; rw [u64_mod, u64_mod]; unfold I64 at hn; omega
    clear hn
    go_enter Tryz.func128, Tryz.ntmps128
    go_wp2
    go_ret
    exact ⟨by rw [← E.out]; rfl, rfl⟩
  · have E : Hid (n = (n.natAbs : Int)) := by show _ = _; omega
    have h1 : 0 ≤ n := by omega
    have h2 : n ≤ 9223372036854775807 := by unfold I64 at hn; omega
    clear hn
    go_enter Tryz.func128, Tryz.ntmps128
    go_wp2
    go_ret
    exact ⟨by rw [← E.out]; rfl, rfl⟩
theorem good_any (mode : Int) (w : World) :
    Calls Tryz.prog 126 #[.int .i64 mode] w fun e w' => e = .returned (.bool (goodm mode)) ∧ w = w' := by
  by_cases h : goodm mode = true
  · rw [h]
    have hg := (goodm_iff mode).1 h
    have hm : mode = 0 ∨ mode = 1 ∨ mode = 2 ∨ mode = 3 := by omega
    clear hg h
    rcases hm with rfl | rfl | rfl | rfl
    all_goals
      go_enter Tryz.func126, Tryz.ntmps126
      go_wp2
      go_ret
      exact ⟨rfl, rfl⟩
  · have e : goodm mode = false := by simpa using h
    rw [e]
    have hg : ¬ (0 ≤ mode ∧ mode ≤ 3) := fun k => h ((goodm_iff mode).2 k)
    have e0 : (mode == 0) = false := by simp; omega
    have e1 : (mode == 1) = false := by simp; omega
    have e2 : (mode == 2) = false := by simp; omega
    have e3 : (mode == 3) = false := by simp; omega
    clear hg h e
    go_enter Tryz.func126, Tryz.ntmps126
    go_wp2
    go_ret
    exact ⟨rfl, rfl⟩
theorem signed_any (n : Int) (b : Bool) (w : World) (h0 : 0 ≤ n) (h1 : n < 18446744073709551616) :
    Calls Tryz.prog 131 #[.int .u64 n, .bool b] w fun e w' => e = .returned (.tuple #[.int .i64 (cut64 (sgnB b n)), .bool (ok64 (sgnB b n))]) ∧ w = w' := by
  cases b
  · show Calls _ _ _ _ fun e w' => e = .returned (.tuple #[.int .i64 (cut64 n), .bool (ok64 n)]) ∧ w = w'
    by_cases h : n < 9223372036854775808
    · have hi : I64 n := by unfold I64; omega
      rw [cut64_t hi, ok64_t hi]
      have E := hid (wrap_in hi)
      clear hi
      go_enter Tryz.func131, Tryz.ntmps131
      go_wp2
      go_ret2
      exact ⟨by first | rfl | (rw [← E.out]; rfl), rfl⟩
    · have hi : ¬ I64 n := by unfold I64; omega
      rw [cut64_f hi, ok64_f hi]
      clear hi
      go_enter Tryz.func131, Tryz.ntmps131
      go_wp2
      go_ret2
      exact ⟨rfl, rfl⟩
  · show Calls _ _ _ _ fun e w' => e = .returned (.tuple #[.int .i64 (cut64 (-n)), .bool (ok64 (-n))]) ∧ w = w'
    by_cases h : n ≤ 9223372036854775808
    · have hi : I64 (-n) := by unfold I64; omega
      rw [cut64_t hi, ok64_t hi]
      have E : Hid (wrap64 (IntKind.u64.wrap (-n)) = -n) := by show _ = _; rw [u64_mod]; unfold wrap64; omega
      clear hi
      go_enter Tryz.func131, Tryz.ntmps131
      go_wp2
      go_ret2
      exact ⟨by rw [E.out]; rfl, rfl⟩
    · have hi : ¬ I64 (-n) := by unfold I64; omega
      rw [cut64_f hi, ok64_f hi]
      clear hi
      go_enter Tryz.func131, Tryz.ntmps131
      go_wp2
      go_ret2
      exact ⟨rfl, rfl⟩
theorem outward_any (q r c mode : Int) (b : Bool) (w : World) (h0 : 0 ≤ q) (h1 : q < 18446744073709551616) (r0 : 0 ≤ r) (r1 : r < 9223372036854775808) :
    Calls Tryz.prog 130 #[.int .u64 q, .int .u64 r, .int .u64 c, .bool b, .int .i64 mode] w fun e w' => e = .returned (.bool (outB q r c b mode)) ∧ w = w' := by
  unfold outB
  by_cases hr : r = 0
  · subst hr
    rw [if_pos rfl]
    go_enter Tryz.func130, Tryz.ntmps130
    go_wp2
    go_ret
    exact ⟨rfl, rfl⟩
  · rw [if_neg hr]
    have e0 : (r == 0) = false := by simpa using hr
    by_cases m0 : mode = 0
    · subst m0
      rw [if_pos rfl]
      go_enter Tryz.func130, Tryz.ntmps130
      go_wp2
      go_ret
      exact ⟨rfl, rfl⟩
    · rw [if_neg m0]
      have e1 : (mode == 0) = false := by simpa using m0
      by_cases m1 : mode = 1
      · subst m1
        rw [if_pos rfl]
        go_enter Tryz.func130, Tryz.ntmps130
        go_wp2
        go_ret
        exact ⟨rfl, rfl⟩
      · rw [if_neg m1]
        have e2 : (mode == 1) = false := by simpa using m1
        have t0 : 0 ≤ 2 * r := by omega
        have t1 : 2 * r < 18446744073709551616 := by omega
        by_cases hc : 2 * r = c
        · have e3 : (2 * r == c) = true := by simpa using hc
          rw [if_neg (by omega)]
          by_cases m2 : mode = 2
          · subst m2
            rw [if_pos rfl]
            clear hc
            go_enter Tryz.func130, Tryz.ntmps130
            go_wp2
            go_ret
            exact ⟨rfl, rfl⟩
          · rw [if_neg m2]
            have e4 : (mode == 2) = false := by simpa using m2
            have E : Hid ((q.tmod 2 == 1) = decide (q % 2 = 1)) := by
              show _ = _; rw [Int.tmod_eq_emod_of_nonneg h0]; rfl
            clear hc
            go_enter Tryz.func130, Tryz.ntmps130
            go_wp2
            go_ret
            exact ⟨by first | (rw [← E.out]; rfl) | rfl, rfl⟩
        · have e3 : (2 * r == c) = false := by simpa using hc
          rw [if_pos hc]
          clear hc
          go_enter Tryz.func130, Tryz.ntmps130
          go_wp2
          go_ret
          exact ⟨rfl, rfl⟩
theorem below_sgn (a b : Int) : sgnB (!(decide (a < 0) == decide (b < 0))) ((a.natAbs * b.natAbs : Nat) : Int) = a * b := by
  rw [← Int.natAbs_mul]
  by_cases ha : a < 0
  · by_cases hb : b < 0
    · rw [decide_eq_true ha, decide_eq_true hb]
      have := Int.mul_pos_of_neg_of_neg ha hb
      show ((a * b).natAbs : Int) = _; omega
    · rw [decide_eq_true ha, decide_eq_false hb]
      have := Int.mul_nonpos_of_nonpos_of_nonneg (show a ≤ 0 by omega) (show 0 ≤ b by omega)
      show -((a * b).natAbs : Int) = _; omega
  · by_cases hb : b < 0
    · rw [decide_eq_false ha, decide_eq_true hb]
      have := Int.mul_nonpos_of_nonneg_of_nonpos (show 0 ≤ a by omega) (show b ≤ 0 by omega)
      show -((a * b).natAbs : Int) = _; omega
    · rw [decide_eq_false ha, decide_eq_false hb]
      have := Int.mul_nonneg (show 0 ≤ a by omega) (show 0 ≤ b by omega)
      show ((a * b).natAbs : Int) = _; omega
set_option maxHeartbeats 1000000 in
theorem muldiv_good (a b c mode : Int) (w : World) (ha : I64 a) (hb : I64 b) (hc : I64 c) (hc0 : 0 < c) (hm : goodm mode = true) :
    Calls Tryz.prog 114 #[.int .i64 a, .int .i64 b, .int .i64 c, .int .i64 mode] w fun e w' => e = .returned (.tuple #[.int .i64 (cut64 (rnd (a * b) c mode)), .bool (ok64 (rnd (a * b) c mode))]) ∧ ∃ n, w' = w.drewN n := by
  have hx : a.natAbs < 18446744073709551616 := by unfold I64 at ha; omega
  have hy : b.natAbs < 18446744073709551616 := by unfold I64 at hb; omega
  have c1 : c ≤ 9223372036854775807 := by unfold I64 at hc; omega
  have e0 : decide (c ≤ 0) = false := by simp; omega
  have HA := hid ha
  have HB := hid hb
  have HM := hid hm
  clear ha hb hc
  go_enter Tryz.func114, Tryz.ntmps114
  go_wp2_with fail
  refine (good_any _ _).mono ?_; rintro e w1 ⟨rfl, rfl⟩; rw [HM.out]
  go_wp2_with fail
  refine (size_any _ _ HA.out).mono ?_; rintro e w1 ⟨rfl, rfl⟩
  go_wp2_with fail
  refine (size_any _ _ HB.out).mono ?_; rintro e w1 ⟨rfl, rfl⟩
  go_wp2_with fail
  refine (mul64_any _ _ hx hy _).mono ?_; rintro e w1 ⟨rfl, rfl⟩
  have hs := below_sgn a b
  generalize hmm : a.natAbs * b.natAbs = m at *
  obtain ⟨t, ht⟩ : ∃ t, (!(decide (a < 0) == decide (b < 0))) = t := ⟨_, rfl⟩
  rw [ht] at hs
  have HS := hid hs
  have HL : Hid (loN m < 18446744073709551616) := loN_lt m
  clear hmm hs
  by_cases hq : c ≤ (hiN m : Int)
  · have hbig := big_quot hc0 hq
    have hn : ¬ I64 (rnd (a * b) c mode) := by
      rw [← HS.out]
      exact rnd_sgn_big t hc0 HM.out (by split <;> omega)
    have HN := hid hn
    clear hbig hn
    go_wp2
    go_ret2
    exact ⟨Ex.ret_2 (cut64_f HN.out).symm (ok64_f HN.out).symm, 0, rfl⟩
  · have hsm := small_quot hc0 hq
    have r0 := Int.emod_nonneg (m : Int) (show c ≠ 0 by omega)
    have r1 := Int.emod_lt_of_pos (m : Int) hc0
    go_wp2_with fail
    refine (div64_any _ _ _ _ (by omega) (by omega) (by omega) (by omega) (by have := HL.out; omega)).mono ?_; rintro e w1 ⟨rfl, n, rfl⟩
    rw [hi_lo_int]
    have hout := out_rnd (m := (m : Int)) t hc0 HM.out
    rw [HS.out] at hout
    generalize hqq : (m : Int) / c = q at *
    generalize hrr : (m : Int) % c = r at *
    have HO := hid hout
    clear hqq hrr hout
    go_wp2_with fail
    obtain ⟨q0, q1⟩ := hsm
    refine (outward_any q r c mode t _ q0 q1 r0 (by omega)).mono ?_; rintro e w1 ⟨rfl, rfl⟩
    generalize outB q r c t mode = o at *
    cases o
    · have HP : Hid (sgnB t q = rnd (a * b) c mode) := by show _ = _; rw [← HO.out]; simp
      clear HO
      go_wp2_with fail
      refine (signed_any q t _ q0 q1).mono ?_; rintro e w1 ⟨rfl, rfl⟩
      go_wp2
      go_ret2
      exact ⟨Ex.ret_2 (by rw [HP.out]) (by rw [HP.out]), n, rfl⟩
    · by_cases hl : q = 18446744073709551615
      · have HN : Hid (¬ I64 (rnd (a * b) c mode)) := by
          show ¬ _
          rw [← HO.out, hl]
          unfold I64 sgnB
          cases t <;> simp
        clear HO
        have e1 : (q == 18446744073709551615) = true := by simpa using hl
        clear hl
        go_wp2
        go_ret2
        exact ⟨Ex.ret_2 (cut64_f HN.out).symm (ok64_f HN.out).symm, n, rfl⟩
      · have HP : Hid (sgnB t (q + 1) = rnd (a * b) c mode) := by show _ = _; rw [← HO.out]; simp
        clear HO
        have e1 : (q == 18446744073709551615) = false := by simpa using hl
        have q2 : q + 1 < 18446744073709551616 := by omega
        clear hl
        go_wp2_with fail
        refine (signed_any (q + 1) t _ (by omega) q2).mono ?_; rintro e w1 ⟨rfl, rfl⟩
        go_wp2
        go_ret2
        exact ⟨Ex.ret_2 (by rw [HP.out]) (by rw [HP.out]), n, rfl⟩
theorem muldiv_any (a b c mode : Int) (w : World) (ha : I64 a) (hb : I64 b) (hc : I64 c) :
    Calls Tryz.prog 114 #[.int .i64 a, .int .i64 b, .int .i64 c, .int .i64 mode] w fun e w' => e = .returned (.tuple #[.int .i64 (mdn (a * b) c mode), .bool (mdb (a * b) c mode)]) ∧ ∃ n, w' = w.drewN n := by
  by_cases hc0 : 0 < c
  · by_cases hm : goodm mode = true
    · rw [mdn_good hc0 hm, mdb_good hc0 hm]
      exact muldiv_good a b c mode w ha hb hc hc0 hm
    · have hm' : goodm mode = false := by simpa using hm
      rw [mdn_m hm', mdb_m hm']
      have e0 : decide (c ≤ 0) = false := by simp; omega
      have HM := hid hm'
      clear hm hm' ha hb hc
      go_enter Tryz.func114, Tryz.ntmps114
      go_wp2_with fail
      refine (good_any _ _).mono ?_; rintro e w1 ⟨rfl, rfl⟩; rw [HM.out]
      go_wp2
      go_ret2
      exact ⟨rfl, 0, rfl⟩
  · rw [mdn_c (by omega), mdb_c (by omega)]
    have e0 : decide (c ≤ 0) = true := by simp; omega
    clear ha hb hc
    go_enter Tryz.func114, Tryz.ntmps114
    go_wp2
    go_ret2
    exact ⟨rfl, 0, rfl⟩
theorem div_any (a c mode : Int) (w : World) (ha : I64 a) (hc : I64 c) :
    Calls Tryz.prog 101 #[.int .i64 a, .int .i64 c, .int .i64 mode] w fun e w' => e = .returned (.tuple #[.int .i64 (mdn a c mode), .bool (mdb a c mode)]) ∧ ∃ n, w' = w.drewN n := by
  have h := fun w => muldiv_any a 1 c mode w ha (by unfold I64; omega) hc
  rw [Int.mul_one] at h
  have H := hid h
  clear h ha hc
  go_enter Tryz.func101, Tryz.ntmps101
  go_wp2_with fail
  refine (H.out _).mono ?_; rintro e w1 ⟨rfl, n, rfl⟩
  go_wp2
  go_ret2
  exact ⟨rfl, n, rfl⟩
/-- What Up answers. -/
def upn (a c : Int) : Int := if mdb a c 1 = true then cut64 (mdn a c 1 * c) else 0
def upb (a c : Int) : Bool := mdb a c 1 && ok64 (mdn a c 1 * c)
theorem i64_mdn (p c mode : Int) : I64 (mdn p c mode) := by
  unfold mdn; split
  · exact i64_cut _
  · exact i64_0
theorem up_any (a c : Int) (w : World) (ha : I64 a) (hc : I64 c) :
    Calls Tryz.prog 122 #[.int .i64 a, .int .i64 c] w fun e w' => e = .returned (.tuple #[.int .i64 (upn a c), .bool (upb a c)]) ∧ ∃ n, w' = w.drewN n := by
  have HA := hid ha
  have HC := hid hc
  have HI := hid (i64_mdn a c 1)
  clear ha hc
  rcases Bool.eq_false_or_eq_true (mdb a c 1) with hy | hy
  · rw [show upn a c = cut64 (mdn a c 1 * c) by unfold upn; rw [hy]; rfl, show upb a c = ok64 (mdn a c 1 * c) by unfold upb; rw [hy]; rfl]
    have HY := hid hy
    clear hy
    go_enter Tryz.func122, Tryz.ntmps122
    go_wp2_with fail
    refine (div_any a c 1 _ HA.out HC.out).mono ?_; rintro e w1 ⟨rfl, n, rfl⟩; rw [HY.out]
    go_wp2_with fail
    refine (Ex.mul_any _ c _ HI.out HC.out).mono ?_; rintro e w1 ⟨rfl, rfl⟩
    go_wp2
    go_ret2
    exact ⟨rfl, n, rfl⟩
  · rw [show upn a c = 0 by unfold upn; rw [hy]; rfl, show upb a c = false by unfold upb; rw [hy]; rfl]
    have HY := hid hy
    clear hy
    go_enter Tryz.func122, Tryz.ntmps122
    go_wp2_with fail
    refine (div_any a c 1 _ HA.out HC.out).mono ?_; rintro e w1 ⟨rfl, n, rfl⟩; rw [HY.out]
    go_wp2
    go_ret2
    exact ⟨rfl, n, rfl⟩
end Go.Proofs.YtjgogpaedaffkaaGreat.Rd
/- The laws of layer 6: plans with one thing otherwise, in memory. -/
namespace Go.Proofs.YtjgogpaedaffkaaGreat.L06
open Go.RowKit Go.Sort P Mm R6
theorem info_tier : (Tryz.prog.info? 54).map (fun i => (i.zero, i.size, i.bytes)) = some (some (.agg (tierC ⟨0, 0⟩).toArray), 2, 16) := by kernel_rfl
def h0 : Hd := ⟨none, 0, none, 0⟩
section
variable {w : World} {base : Nat} {r : Plan} {ma : Option Addr} {mc : Nat} {fa : Option Addr} {fc cb cc : Nat} {hs : List Hd} {j : Nat} {c c' : Charge} {d d' : Hd}
end
end Go.Proofs.YtjgogpaedaffkaaGreat.L06
/- Package tree, walked: rows that a call makes; Clone; a charge without its place. -/
namespace Go.Proofs.YtjgogpaedaffkaaGreat.Te
open Go.RowKit Go.Sort P Mm R6 Tl L06
theorem flat_split {α β : Type} {cells : α → List β} {n : Nat} (hn : ∀ x, (cells x).length = n) : ∀ (xs : List α) (j : Nat) (u : β), (xs.flatMap cells)[j]? = some u → ∃ q x i, xs[q]? = some x ∧ (cells x)[i]? = some u ∧ j = q * n + i
  | [], j, u, h => by simp at h
  | a :: r, j, u, h => by
    rw [List.flatMap_cons] at h
    by_cases hj : j < n
    · rw [List.getElem?_append_left (by rw [hn]; exact hj)] at h
      exact ⟨0, a, j, rfl, h, by omega⟩
    · rw [List.getElem?_append_right (by rw [hn]; omega), hn] at h
      obtain ⟨q, x, i, h1, h2, h3⟩ := flat_split hn r (j - n) u h
      refine ⟨q + 1, x, i, by simpa using h1, h2, ?_⟩
      rw [Nat.succ_mul]
      omega
theorem row_cells {α : Type} {n : Nat} {cells : α → List Value} {ok : α → Prop} {hn : ∀ x, (cells x).length = n} {w : World} {b o len cap : Nat} {xs : List α} (h : Row (leaf n cells ok hn) w (some ⟨b, o, none⟩) len cap xs) :
    ∀ j u, (xs.flatMap cells)[j]? = some u → w.cell? ((⟨b, o, none⟩ : Addr).add j) = some u := fun j u hj => by
  obtain ⟨q, x, i, h1, h2, h3⟩ := flat_split hn xs j u hj
  obtain ⟨b', o', cs, e, _, ⟨e2, _⟩, h4⟩ := h.at h1
  simp only [Option.some.injEq, Addr.mk.injEq, and_true] at e
  obtain ⟨rfl, rfl⟩ := e
  subst e2
  have := h4 i u h2
  rw [add_plain, h3, ← Nat.add_assoc]
  exact this
theorem one_tier : ∀ (ts : List Tier), ∀ u ∈ ts.flatMap tierC, u.oneCell' = true := fun ts u hu => by
  obtain ⟨t, _, h⟩ := List.mem_flatMap.1 hu
  simp only [tierC, List.mem_cons, List.not_mem_nil, or_false] at h
  rcases h with rfl | rfl <;> rfl
set_option maxHeartbeats 2000000 in
set_option maxRecDepth 100000 in
theorem cloneT_any (ts : List Tier) (ta : Option Addr) (tc : Nat) (w : World) (h : Row tTier w ta ts.length tc ts) (hl : ts.length ≤ 100000) :
    Calls Tryz.prog 123 #[.slice ta ts.length tc] w fun e w' => ∃ v, e = .returned v ∧ w'.ownsRow w.heap.size 54 2 v ts.length (ts.flatMap tierC) ∧ Below w.heap.size w w' := by
  have q : ∀ (w : World) (a : Option Addr) (n c n' c' : Nat), (binOp .eql 55 (.slice a n c) (.slice none n' c')).run Tryz.prog w = .ok (.bool a.isNone) w := fun w a n c n' c' => Lib.run_eql_slice_nil w _ _ a n c n' c' Tryz.underlying55
  cases ta with
  | none =>
    obtain rfl : ts = [] := by
      cases ts with
      | nil => rfl
      | cons a r => obtain ⟨b, o, e, _⟩ := h.lie (by simp); cases e
    clear h hl
    go_enter Tryz.func123, Tryz.ntmps123
    go_wp2
    go_ret
    exact ⟨_, rfl, World.ownsRow_nil .., Below.refl _ _⟩
  | some a =>
    obtain ⟨ti, hi, hz0, hz1, hz2⟩ := info_parts info_tier
    have hnews : ∀ (x : Obj) (j : Nat) (u : Value), (ts.flatMap tierC)[j]? = some u → (w.alloc x).cell? (a.add j) = some u := fun x j u hj => by
      obtain ⟨b, o, e, hlt, _⟩ := h.lie (fun e => by rw [e] at hj; simp at hj)
      obtain rfl := Option.some.inj e
      have := row_cells (h.alloc x) j u hj
      exact this
    have hfl : (ts.flatMap tierC).length = ts.length * 2 := flat_len (f := tierC) (n := 2) (fun _ => rfl) _
    have H := hid hnews
    have HF := hid hfl
    clear h hnews hfl
    go_enter Tryz.func123, Tryz.ntmps123
    go_wp2_with (at_builtin; refine wpList_append_own _ rfl _ _ 55 rfl w.heap.size 54 ti (.agg (tierC ⟨0, 0⟩).toArray) 2 16 Tryz.underlying55 hi hz0 hz1 hz2 rfl (by decide) _ _ _ rfl (World.ownsRow_made w #[] 0 (Nat.le_refl _) (Nat.zero_le _) rfl) a ts.length tc (ts.flatMap tierC) rfl ?c1 ?c2 ?c3 ?c4 ?c5 ?c6 ?_)
    case c1 => exact HF.out
    case c2 => exact H.out _
    case c3 => exact one_tier ts
    case c4 => unfold maxLen; omega
    case c5 => omega
    case c6 => simp
    intro v' w1 hown hgrow hnil
    clear hnil
    have hb : Below w.heap.size w w1 := ((Below.refl _ w).alloc (Nat.le_refl _) _).grown hgrow (by simp) (by intro k hk; simp [Value.ownBlock] at hk; omega)
    have ho : w1.ownsRow w.heap.size 54 2 v' ts.length (ts.flatMap tierC) := by simpa using hown
    clear hown hgrow
    go_wp2
    go_ret
    exact ⟨v', rfl, ho, hb⟩
end Go.Proofs.YtjgogpaedaffkaaGreat.Te
/- Package tiers, walked: how far a tier reaches; what is left of a quantity; the two functions that hand out steps. -/
namespace Go.Proofs.YtjgogpaedaffkaaGreat.Tg
open Go.RowKit Go.Sort Go.Shelf P Mm Md R6 Te Co R10 R11 L11
set_option maxHeartbeats 4000000 in
set_option maxRecDepth 100000 in
theorem reach_any (ts : List Tier) (ta : Option Addr) (tc : Nat) (i : Nat) (q : Int) (w : World) (h : Row tTier w ta ts.length tc ts) (hi : i < ts.length) (hl : ts.length ≤ 1000) :
    Calls Tryz.prog 136 #[.slice ta ts.length tc, .int .i64 (i : Int), .int .i64 q] w fun e w' => e = .returned (.int .i64 (reachP ts q i)) ∧ w' = w := by
  obtain ⟨t, ht⟩ : ∃ t, ts[i]? = some t := ⟨_, List.getElem?_eq_getElem hi⟩
  obtain ⟨b, o, e, lb, a0, a1, _⟩ := tier_at h ht
  have w1 : IntKind.i64.wrap ((ts.length : Int) - 1) = (ts.length : Int) - 1 := wrap_i (by unfold I64; omega)
  have tm := h.hmax
  have tcp := h.hcap
  subst e
  by_cases hk : i + 1 = ts.length
  · have z : decide ((i : Int) = (ts.length : Int) - 1) = true := decide_eq_true (by omega)
    have z' : ((i : Int) == (ts.length : Int) - 1) = true := by rw [beq_iff_eq]; omega
    have HR : Hid (reachP ts q i = q) := hid (by unfold reachP; rw [if_pos hk])
    clear h ht hk
    go_enter Tryz.func136, Tryz.ntmps136
    go_wp2
    go_ret
    exact ⟨by rw [HR.out]; rfl, rfl⟩
  · have z : decide ((i : Int) = (ts.length : Int) - 1) = false := decide_eq_false (by omega)
    have z' : ((i : Int) == (ts.length : Int) - 1) = false := by rw [beq_eq_false_iff_ne]; omega
    have HR : Hid (reachP ts q i = min q t.upto) := hid (by unfold reachP; rw [if_neg hk, ht]; rfl)
    clear h ht hk
    go_enter Tryz.func136, Tryz.ntmps136
    go_wp2
    go_ret
    exact ⟨by rw [HR.out]; rfl, rfl⟩
theorem up_lq {x : Prt} (g : GoodT x) {q : Int} (hq : I64 q) (h0 : 0 ≤ q) : I64 (max 0 (q - x.allowance)) ∧ Rd.upn (max 0 (q - x.allowance)) x.block = oV (lqO x q) ∧ Rd.upb (max 0 (q - x.allowance)) x.block = oB (lqO x q) := by
  obtain ⟨g0, g1⟩ := g.allow
  obtain ⟨g2, g3⟩ := g.block
  obtain ⟨N, hN⟩ : ∃ N, N = max 0 (q - x.allowance) := ⟨_, rfl⟩
  have n0 : 0 ≤ N := by omega
  have n1 : N ≤ 9223372036854775807 := by have := hq.2; omega
  have kk := up_in n0 n1 g2
  obtain ⟨k, hk⟩ : ∃ k, k = (N + x.block - 1) / x.block := ⟨_, rfl⟩
  rw [← hk] at kk
  have EL : lq x q = k * x.block := by rw [hk, hN]; rfl
  rw [← hN]
  have md : mdn N x.block 1 = k := by rw [mdn_good (by omega) (by decide), R11.rnd_up (by omega), ← hk, cut64_t (by unfold I64; omega)]
  have mb : mdb N x.block 1 = true := by rw [mdb_good (by omega) (by decide), R11.rnd_up (by omega), ← hk, ok64_t (by unfold I64; omega)]
  refine ⟨by unfold I64; omega, ?_, ?_⟩
  · unfold Rd.upn
    rw [mb, md, if_pos rfl]
    unfold lqO lqOk
    rw [decide_eq_true h0, Bool.true_and, EL]
    unfold cut64
    split <;> rfl
  · unfold Rd.upb
    rw [mb, md, Bool.true_and]
    unfold lqO lqOk
    rw [decide_eq_true h0, Bool.true_and, EL]
    split <;> simp_all [oB]
set_option maxHeartbeats 4000000 in
set_option maxRecDepth 100000 in
theorem quantity_any (x : Prt) (ta : Option Addr) (tc : Nat) (aa : Option Addr) (ac : Nat) (q : Int) (w : World) (hq : I64 q) (g : GoodT x) :
    Calls Tryz.prog 111 #[.agg #[.int .i64 x.mt, .int .i64 x.a, .int .i64 x.b, .int .i64 x.allowance, .int .i64 x.block, .int .i64 x.kind, .slice ta x.tiers.length tc, .int .i64 x.mode, .slice aa x.adjusts.length ac], .int .i64 q] w fun e w' => e = .returned (.tuple #[.int .i64 (oV (lqO x q)), .bool (oB (lqO x q))]) ∧ Below w.heap.size w w' := by
  obtain ⟨w1, hw1⟩ : ∃ W, W = w.alloc (.cells ([.int .i64 x.mt, .int .i64 x.a, .int .i64 x.b, .int .i64 x.allowance, .int .i64 x.block, .int .i64 x.kind, .slice ta x.tiers.length tc, .int .i64 x.mode, .slice aa x.adjusts.length ac] : List Value).toArray 58) := ⟨_, rfl⟩
  obtain ⟨k1, hk1⟩ : ∃ k, k = w.heap.size := ⟨_, rfl⟩
  have b1 : Below w.heap.size w w1 := by rw [hw1]; exact bel_alloc _ _
  have X1 : Box w1 k1 [.int .i64 x.mt, .int .i64 x.a, .int .i64 x.b, .int .i64 x.allowance, .int .i64 x.block, .int .i64 x.kind, .slice ta x.tiers.length tc, .int .i64 x.mode, .slice aa x.adjusts.length ac] := by rw [hw1, hk1]; exact Box.new w _ 58
  have c3 := X1.cell 3 _ rfl
  have c4 := X1.cell 4 _ rfl
  have l1 := X1.lt
  have HX := hid X1
  have HB1 := hid b1
  have HW := hid hw1
  have HK := hid hk1
  obtain ⟨V, hV⟩ : ∃ V, V = oV (lqO x q) := ⟨_, rfl⟩
  obtain ⟨O, hO⟩ : ∃ O, O = oB (lqO x q) := ⟨_, rfl⟩
  rw [← hV, ← hO]
  have EV := hid hV
  have EO := hid hO
  have HQ := hid hq
  have GD := hid g
  clear hw1 hk1 X1 b1 hV hO hq g
  by_cases h0 : q < 0
  · have HV : Hid (V = 0) := hid (by rw [EV.out]; unfold lqO lqOk; rw [decide_eq_false (by omega)]; rfl)
    have HO : Hid (O = false) := hid (by rw [EO.out]; unfold lqO lqOk; rw [decide_eq_false (by omega)]; rfl)
    clear EV EO
    go_enter Tryz.func111, Tryz.ntmps111
    go_upto_region 1 with fail
    rw [← HW.out, ← HK.out]
    go_wp2
    go_ret2
    exact ⟨Ex.ret_2 HV.out.symm HO.out.symm, HB1.out⟩
  · have h1 : 0 ≤ q := by omega
    obtain ⟨u0, u1, u2⟩ := up_lq GD.out HQ.out h1
    obtain ⟨g0, g1⟩ := GD.out.allow
    obtain ⟨g2, g3⟩ := GD.out.block
    have q1 : q ≤ 9223372036854775807 := HQ.out.2
    have i1 : I64 (q - x.allowance) := by unfold I64; omega
    have cS := hid (fun (W : World) => show Calls Tryz.prog 121 #[.int .i64 q, .int .i64 x.allowance] W fun e w' => e = .returned (.tuple #[.int .i64 (q - x.allowance), .bool true]) ∧ W = w' by
      have m := Ex.sub_any q x.allowance W HQ.out (by unfold I64; omega)
      rw [cut64_t i1, ok64_t i1] at m
      exact m)
    obtain ⟨M, hM⟩ : ∃ M, M = max 0 (q - x.allowance) := ⟨_, rfl⟩
    rw [← hM] at u0 u1 u2
    have cU := hid (fun (W : World) => show Calls Tryz.prog 122 #[.int .i64 M, .int .i64 x.block] W fun e w' => e = .returned (.tuple #[.int .i64 V, .bool O]) ∧ Below W.heap.size W w' by
      have m := Rd.up_any M x.block W u0 (by unfold I64; omega)
      rw [u1, u2, ← EV.out, ← EO.out] at m
      refine m.mono ?_
      rintro e w' ⟨rfl, n, rfl⟩
      exact ⟨rfl, P.bel_drewN (Below.refl _ _) n⟩)
    have HM := hid hM
    clear EV EO u0 u1 u2 i1 hM h0 g0 g1 g2 g3 q1
    go_enter Tryz.func111, Tryz.ntmps111
    go_upto_region 1 with fail
    rw [← HW.out, ← HK.out]
    go_wp2_with fail
    refine (cS.out _).mono ?_
    rintro e w2 ⟨rfl, rfl⟩
    go_wp2_with fail
    rw [← HM.out]
    refine (cU.out _).mono ?_
    rintro e w3 ⟨rfl, b3⟩
    have B3 := hid (bel_on HB1.out b3)
    clear b3
    go_wp2
    go_ret2
    exact ⟨rfl, B3.out⟩
end Go.Proofs.YtjgogpaedaffkaaGreat.Tg

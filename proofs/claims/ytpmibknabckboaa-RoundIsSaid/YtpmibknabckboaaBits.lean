/- What math/bits answers in this program: Mul64, Len64, LeadingZeros64: contracts over the walked program. -/
import Derived.Test.YtpmibknabckboaaPure
import Derived.Test.YtpmibknabckboaaRows
import Derived.WalkKit
import Derived.ProofKit
import Derived.BigQuiet
import Derived.Deep.QuietTactic
import Derived.Lib.Mul64
import Derived.Lib.Strings
import Derived.Lib.Small
import Derived.Lib.Walk
import Derived.Lib.BitFns
import Derived.Laws.Bits64b
namespace Go.Proofs.Ytpmibknabckboaa.Bt
open Go.RowKit P

theorem mask32 (a : Nat) (ha : a < 18446744073709551616) : bits .and .u64 (a : Int) 4294967295 = ((a % 4294967296 : Nat) : Int) := by
  have h := bits_and_u64_nat a 4294967295 ha (by omega)
  rw [Nat.and_two_pow_sub_one_eq_mod a 32] at h
  exact h
theorem half32 (a : Nat) : (a : Int) / 4294967296 = ((a / 4294967296 : Nat) : Int) := by omega
theorem mulC (a b : Nat) : (a : Int) * (b : Int) = ((a * b : Nat) : Int) := (Int.natCast_mul a b).symm
theorem addC (a b : Nat) : (a : Int) + (b : Int) = ((a + b : Nat) : Int) := (Int.natCast_add a b).symm
theorem wrapC (a : Nat) (ha : a < 18446744073709551616) : IntKind.u64.wrap (a : Int) = (a : Int) := by rw [IntKind.wrap_u64]; omega
theorem wrapM (a : Nat) : IntKind.u64.wrap (a : Int) = ((a % 18446744073709551616 : Nat) : Int) := by rw [IntKind.wrap_u64]; omega

set_option maxHeartbeats 1000000 in
theorem mul64_any (x y : Nat) (hx : x < 18446744073709551616) (hy : y < 18446744073709551616) (w : World) :
    Calls Try.prog 19 #[.int .u64 x, .int .u64 y] w fun e w' => e = .returned (.tuple #[.int .u64 (hiN (x * y)), .int .u64 (loN (x * y))]) ∧ w = w' := by
  obtain ⟨bd, bt, bw, hhi⟩ := Lib.mul64_hi x y hx hy
  have ba := Lib.half_mul_le (a := x / 4294967296) (b := y / 4294967296) (by omega) (by omega)
  have bb := Lib.half_mul_le (a := x / 4294967296) (b := y % 4294967296) (by omega) (by omega)
  have bc := Lib.half_mul_le (a := x % 4294967296) (b := y / 4294967296) (by omega) (by omega)
  have ba' : x / 4294967296 * (y / 4294967296) < 18446744073709551616 := by omega
  have bb' : x / 4294967296 * (y % 4294967296) < 18446744073709551616 := by omega
  have bc' : x % 4294967296 * (y / 4294967296) < 18446744073709551616 := by omega
  have bh1 : x / 4294967296 * (y / 4294967296) + (x / 4294967296 * (y % 4294967296) + x % 4294967296 * (y % 4294967296) / 4294967296) / 4294967296 < 18446744073709551616 := by omega
  have bh : x / 4294967296 * (y / 4294967296) + (x / 4294967296 * (y % 4294967296) + x % 4294967296 * (y % 4294967296) / 4294967296) / 4294967296 + ((x / 4294967296 * (y % 4294967296) + x % 4294967296 * (y % 4294967296) / 4294967296) % 4294967296 + x % 4294967296 * (y / 4294967296)) / 4294967296 < 18446744073709551616 := by omega
  go_enter Try.func19, Try.ntmps19
  go_wp2
  simp only [mask32 x hx, mask32 y hy, half32, mulC, addC, wrapC _ bd, wrapC _ bb', wrapC _ bt, mask32 _ bt, wrapC _ bc', wrapC _ bw, wrapC _ ba', wrapC _ bh1, wrapC _ bh, wrapM (x * y)]
  rw [hhi]
  go_ret2
  exact ⟨rfl, rfl⟩

theorem tab_len (n : Nat) (h : n < Lib.len8tab.size) : (Lib.len8tab[n]'h).toNat = Lib.bitLen n := by
  have h2 : n < 256 := by rw [Lib.len8tab_size] at h; exact h
  have e := Lib.len8_eq ⟨n, h2⟩
  simp only [Lib.len8, Int.toNat_natCast, ByteArray.getElem?_lt' _ _ h, Option.getD_some] at e
  omega
theorem tab_le (n : Nat) (h : n < Lib.len8tab.size) : Lib.bitLen n ≤ 8 := by
  have h2 : n < 256 := by rw [Lib.len8tab_size] at h; exact h
  exact Lib.bitLen_le8 ⟨n, h2⟩
theorem len_close {k : Nat} {x d : Int} {e : Int} (h : d.toNat < Lib.len8tab.size) (hk : e = k) (h1 : x ≤ 18446744073709551615) (h0 : 0 ≤ x) (hx : 2 ^ k ≤ x.toNat) (hd : d.toNat = x.toNat / 2 ^ k) (k56 : k ≤ 56) :
    wrap64 (e + wrap64 ((Lib.len8tab[d.toNat]'h).toNat : Int)) = (Lib.bitLen x.toNat : Int) := by
  rw [tab_len, Lib.bitLen_shift k x.toNat hx (by omega), ← hd]
  have := tab_le _ h
  unfold wrap64
  omega
theorem len_close0 {x : Int} (h : x.toNat < Lib.len8tab.size) : wrap64 (wrap64 ((Lib.len8tab[x.toNat]'h).toNat : Int)) = (Lib.bitLen x.toNat : Int) := by
  rw [tab_len]
  have := tab_le _ h
  unfold wrap64
  omega
set_option maxHeartbeats 4000000 in
set_option maxRecDepth 100000 in
theorem len64_int (x : Int) (w : World) (h0 : 0 ≤ x) (h1 : x ≤ 18446744073709551615) :
    Calls Try.prog 35 #[.int .u64 x] w fun e w' => e = .returned (.int .i64 (Lib.bitLen x.toNat)) ∧ w = w' := by
  have hs := Lib.len8tab_size
  go_enter Try.func35, Try.ntmps35
  go_wp2
  all_goals first
    | (exfalso; omega)
    | (go_ret
       refine ⟨congrArg Ending.returned (congrArg (Value.int IntKind.i64) ?_), rfl⟩
       first
         | exact len_close0 _
         | exact len_close (k := 56) _ rfl h1 h0 (by omega) (by omega) (by omega)
         | exact len_close (k := 48) _ rfl h1 h0 (by omega) (by omega) (by omega)
         | exact len_close (k := 40) _ rfl h1 h0 (by omega) (by omega) (by omega)
         | exact len_close (k := 32) _ rfl h1 h0 (by omega) (by omega) (by omega)
         | exact len_close (k := 24) _ rfl h1 h0 (by omega) (by omega) (by omega)
         | exact len_close (k := 16) _ rfl h1 h0 (by omega) (by omega) (by omega)
         | exact len_close (k := 8) _ rfl h1 h0 (by omega) (by omega) (by omega))

theorem len_bounds (x : Nat) (hx : x < 2 ^ 64) (h0 : x ≠ 0) : ∃ k, Lib.bitLen x = k + 1 ∧ 2 ^ k ≤ x ∧ x < 2 ^ (k + 1) := by
  induction x using Nat.strongRecOn with
  | ind x ih =>
    by_cases h1 : x = 1
    · subst h1; exact ⟨0, by decide, by decide, by decide⟩
    · obtain ⟨k, e, l, u⟩ := ih (x / 2) (by omega) (by omega) (by omega)
      refine ⟨k + 1, by rw [Lib.bitLen_half x h0 hx, e]; omega, ?_, ?_⟩
      · rw [Nat.pow_succ] at *; omega
      · rw [Nat.pow_succ] at *; omega
/-- How many noughts lead a number of 64 bits. -/
def lz (x : Nat) : Nat := 64 - Lib.bitLen x
theorem lz_le (x : Nat) (hx : x < 2 ^ 64) (h0 : x ≠ 0) : lz x ≤ 63 := by
  obtain ⟨k, e, _, _⟩ := len_bounds x hx h0
  unfold lz; omega
theorem lz_norm (x : Nat) (hx : x < 2 ^ 64) (h0 : x ≠ 0) : 2 ^ 63 ≤ x * 2 ^ lz x ∧ x * 2 ^ lz x < 2 ^ 64 := by
  obtain ⟨k, e, l, u⟩ := len_bounds x hx h0
  have hk : k < 64 := by
    rcases Nat.lt_or_ge k 64 with h | h
    · exact h
    · exact absurd (Nat.le_trans (Nat.pow_le_pow_right (by omega) h) l) (by omega)
  have e1 : lz x = 63 - k := by unfold lz; omega
  rw [e1]
  have p1 : (2 : Nat) ^ 63 = 2 ^ k * 2 ^ (63 - k) := by rw [← Nat.pow_add]; congr 1; omega
  have p2 : (2 : Nat) ^ 64 = 2 ^ (k + 1) * 2 ^ (63 - k) := by rw [← Nat.pow_add]; congr 1; omega
  rw [p1, p2]
  exact ⟨Nat.mul_le_mul_right _ l, Nat.mul_lt_mul_of_pos_right u (Nat.pow_pos (by omega))⟩
theorem lead_any (x : Int) (w : World) (h0 : 0 ≤ x) (h1 : x ≤ 18446744073709551615) :
    Calls Try.prog 32 #[.int .u64 x] w fun e w' => e = .returned (.int .i64 (64 - (Lib.bitLen x.toNat : Int))) ∧ w = w' := by
  have hl : Lib.bitLen x.toNat ≤ 64 := Lib.bitLen_le _ _ (Nat.le_refl _) (by omega)
  have E : Hid (wrap64 (64 - (Lib.bitLen x.toNat : Int)) = 64 - (Lib.bitLen x.toNat : Int)) := by show _ = _; unfold wrap64; omega
  clear hl
  go_enter Try.func32, Try.ntmps32
  go_wp2_with (go_at_call 35; refine (len64_int _ _ h0 h1).mono ?_; rintro e w' ⟨rfl, rfl⟩)
  go_ret
  exact ⟨by rw [E.out]; rfl, rfl⟩
theorem lead_ex (x : Int) (w : World) (h0 : 0 < x) (h1 : x ≤ 18446744073709551615) :
    Calls Try.prog 32 #[.int .u64 x] w fun e w' => ∃ s : Nat, s ≤ 63 ∧ 9223372036854775808 ≤ x * 2 ^ s ∧ x * 2 ^ s < 18446744073709551616 ∧ e = .returned (.int .i64 s) ∧ w = w' := by
  have hx : x.toNat < 2 ^ 64 := by omega
  have hn : x.toNat ≠ 0 := by omega
  have hl : Lib.bitLen x.toNat ≤ 64 := Lib.bitLen_le _ _ (Nat.le_refl _) hx
  have h2 := lz_norm x.toNat hx hn
  have e2 : ((x.toNat * 2 ^ lz x.toNat : Nat) : Int) = x * 2 ^ lz x.toNat := by
    rw [Int.natCast_mul, Int.natCast_pow, Int.toNat_of_nonneg (by omega)]; rfl
  refine (lead_any x w (by omega) h1).mono ?_
  rintro e w' ⟨rfl, rfl⟩
  refine ⟨lz x.toNat, lz_le _ hx hn, by omega, by omega, ?_, rfl⟩
  rw [show ((lz x.toNat : Nat) : Int) = 64 - (Lib.bitLen x.toNat : Int) by unfold lz; omega]
end Go.Proofs.Ytpmibknabckboaa.Bt

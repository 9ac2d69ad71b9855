/- What math/bits answers in this program: Mul64, Len64, LeadingZeros64: contracts over the walked program. -/
import Derived.Test.YtpmibknabckboaaPureD
import Derived.Test.YtpmibknabckboaaRows
import Derived.WalkKit
import Derived.ProofKit
import Derived.BigQuiet
import Derived.Deep.QuietTactic
import Derived.Lib.Strings
import Derived.Lib.Small
import Derived.Lib.Walk
import Derived.Lib.BitFns
namespace Go.Proofs.Ytpmibknabckboaa.Bt
open Go.RowKit P

theorem mask_any {n : Int} : bits .and .u64 (IntKind.u64.wrap n) 4294967295 = IntKind.u64.wrap n % 4294967296 := and32 (by rw [u64_mod]; omega) (by rw [u64_mod]; omega)
/-- The product's upper half, out of four products of halves. -/
theorem upper_half (X Y : Int) (x0 : 0 ≤ X) (x1 : X < 18446744073709551616) (y0 : 0 ≤ Y) (y1 : Y < 18446744073709551616) :
    IntKind.u64.wrap (IntKind.u64.wrap (IntKind.u64.wrap (X / 4294967296 * (Y / 4294967296)) + IntKind.u64.wrap (IntKind.u64.wrap (X / 4294967296 * (Y % 4294967296)) + IntKind.u64.wrap (X % 4294967296 * (Y % 4294967296)) / 4294967296) / 4294967296) +
      IntKind.u64.wrap (IntKind.u64.wrap (IntKind.u64.wrap (X / 4294967296 * (Y % 4294967296)) + IntKind.u64.wrap (X % 4294967296 * (Y % 4294967296)) / 4294967296) % 4294967296 + IntKind.u64.wrap (X % 4294967296 * (Y / 4294967296))) / 4294967296) = X * Y / 18446744073709551616 := by
  have le : ∀ a b : Int, 0 ≤ a → a ≤ 4294967295 → 0 ≤ b → b ≤ 4294967295 → 0 ≤ a * b ∧ a * b ≤ 18446744065119617025 := fun a b h1 h2 h3 h4 => by
    have h5 := Int.mul_le_mul h2 h4 h3 (by omega : (0 : Int) ≤ 4294967295)
    exact ⟨Int.mul_nonneg h1 h3, by omega⟩
  have e : X * Y = X / 4294967296 * (Y / 4294967296) * 18446744073709551616 + (X / 4294967296 * (Y % 4294967296) + X % 4294967296 * (Y / 4294967296)) * 4294967296 + X % 4294967296 * (Y % 4294967296) := by
    have hx := Int.mul_ediv_add_emod X 4294967296
    have hy := Int.mul_ediv_add_emod Y 4294967296
    have key : ∀ a b c d : Int, (4294967296 * a + b) * (4294967296 * c + d) = a * c * 18446744073709551616 + (a * d + b * c) * 4294967296 + b * d := by intro a b c d; grind
    have := key (X / 4294967296) (X % 4294967296) (Y / 4294967296) (Y % 4294967296)
    rw [hx, hy] at this
    exact this
  have p1 := le (X / 4294967296) (Y / 4294967296) (by omega) (by omega) (by omega) (by omega)
  have p2 := le (X / 4294967296) (Y % 4294967296) (by omega) (by omega) (by omega) (by omega)
  have p3 := le (X % 4294967296) (Y / 4294967296) (by omega) (by omega) (by omega) (by omega)
  have p4 := le (X % 4294967296) (Y % 4294967296) (by omega) (by omega) (by omega) (by omega)
  rw [e]
  generalize X / 4294967296 * (Y / 4294967296) = A at *
  generalize X / 4294967296 * (Y % 4294967296) = B at *
  generalize X % 4294967296 * (Y / 4294967296) = C at *
  generalize X % 4294967296 * (Y % 4294967296) = D at *
  simp only [u64_mod]
  clear e le x0 x1 y0 y1
  omega

theorem mul64_int (X Y : Int) (x0 : 0 ≤ X) (x1 : X < 18446744073709551616) (y0 : 0 ≤ Y) (y1 : Y < 18446744073709551616) (w : World) :
    Calls Try.prog 19 #[.int .u64 X, .int .u64 Y] w fun e w' => e = .returned (.tuple #[.int .u64 (X * Y / 18446744073709551616), .int .u64 (IntKind.u64.wrap (X * Y))]) ∧ w = w' := by
  have E := hid (upper_half X Y x0 x1 y0 y1)
  have EX := hid (and32 x0 x1)
  have EY := hid (and32 y0 y1)
  clear x0 x1 y0 y1
  go_enter Try.func19, Try.ntmps19
  go_wp2
  rw [EX.out, EY.out, mask_any, E.out]
  go_ret2
  exact ⟨rfl, rfl⟩
theorem mul64_any (x y : Nat) (hx : x < 18446744073709551616) (hy : y < 18446744073709551616) (w : World) :
    Calls Try.prog 19 #[.int .u64 x, .int .u64 y] w fun e w' => e = .returned (.tuple #[.int .u64 (hiN (x * y)), .int .u64 (loN (x * y))]) ∧ w = w' := by
  have h := mul64_int x y (by omega) (by omega) (by omega) (by omega) w
  have e1 : (x : Int) * y / 18446744073709551616 = (hiN (x * y) : Int) := by rw [← Int.natCast_mul]; unfold hiN; omega
  have e2 : IntKind.u64.wrap ((x : Int) * y) = (loN (x * y) : Int) := by rw [← Int.natCast_mul, u64_mod]; unfold loN; omega
  rw [e1, e2] at h
  exact h

theorem tab_len (n : Nat) (h : n < Lib.len8tab.size) : (Lib.len8tab[n]'h).toNat = Lib.bitLen n := by
  have h2 : n < 256 := by rw [Lib.len8tab_size] at h; exact h
  have e := Lib.len8_eq ⟨n, h2⟩
  simp only [Lib.len8, Int.toNat_natCast, ByteArray.getElem?_lt' _ _ h, Option.getD_some] at e
  omega
theorem tab_le (n : Nat) (h : n < Lib.len8tab.size) : Lib.bitLen n ≤ 8 := by
  have h2 : n < 256 := by rw [Lib.len8tab_size] at h; exact h
  exact Lib.bitLen_le8 ⟨n, h2⟩
theorem len_close {k : Nat} {x d : Int} {e : Int} (h : d.toNat < Lib.len8tab.size) (hk : e = k) (h1 : x ≤ 18446744073709551615) (h0 : 0 ≤ x) (hx : 2 ^ k ≤ x.toNat) (hd : d.toNat = x.toNat / 2 ^ k) (k56 : k ≤ 56) :
    wrap64 (e + wrap64 ((Lib.len8tab[d.toNat]'h).toNat : Int)) = (Lib.bitLen x.toNat : Int) := by
  rw [tab_len, Lib.bitLen_shift k x.toNat hx (by omega), ← hd]
  have := tab_le _ h
  unfold wrap64
  omega
theorem len_close0 {x : Int} (h : x.toNat < Lib.len8tab.size) : wrap64 (wrap64 ((Lib.len8tab[x.toNat]'h).toNat : Int)) = (Lib.bitLen x.toNat : Int) := by
  rw [tab_len]
  have := tab_le _ h
  unfold wrap64
  omega
set_option maxHeartbeats 4000000 in
set_option maxRecDepth 100000 in
theorem len64_int (x : Int) (w : World) (h0 : 0 ≤ x) (h1 : x ≤ 18446744073709551615) :
    Calls Try.prog 35 #[.int .u64 x] w fun e w' => e = .returned (.int .i64 (Lib.bitLen x.toNat)) ∧ w = w' := by
  have hs := Lib.len8tab_size
  go_enter Try.func35, Try.ntmps35
  go_wp2
  all_goals first
    | (exfalso; omega)
    | (go_ret
       refine ⟨congrArg Ending.returned (congrArg (Value.int IntKind.i64) ?_), rfl⟩
       first
         | exact len_close0 _
         | exact len_close (k := 56) _ rfl h1 h0 (by omega) (by omega) (by omega)
         | exact len_close (k := 48) _ rfl h1 h0 (by omega) (by omega) (by omega)
         | exact len_close (k := 40) _ rfl h1 h0 (by omega) (by omega) (by omega)
         | exact len_close (k := 32) _ rfl h1 h0 (by omega) (by omega) (by omega)
         | exact len_close (k := 24) _ rfl h1 h0 (by omega) (by omega) (by omega)
         | exact len_close (k := 16) _ rfl h1 h0 (by omega) (by omega) (by omega)
         | exact len_close (k := 8) _ rfl h1 h0 (by omega) (by omega) (by omega))

theorem len_bounds (x : Nat) (hx : x < 2 ^ 64) (h0 : x ≠ 0) : ∃ k, Lib.bitLen x = k + 1 ∧ 2 ^ k ≤ x ∧ x < 2 ^ (k + 1) := by
  induction x using Nat.strongRecOn with
  | ind x ih =>
    by_cases h1 : x = 1
    · subst h1; exact ⟨0, by decide, by decide, by decide⟩
    · obtain ⟨k, e, l, u⟩ := ih (x / 2) (by omega) (by omega) (by omega)
      refine ⟨k + 1, by rw [Lib.bitLen_half x h0 hx, e]; omega, ?_, ?_⟩
      · rw [Nat.pow_succ] at *; omega
      · rw [Nat.pow_succ] at *; omega
/-- How many noughts lead a number of 64 bits. -/
def lz (x : Nat) : Nat := 64 - Lib.bitLen x
theorem lz_le (x : Nat) (hx : x < 2 ^ 64) (h0 : x ≠ 0) : lz x ≤ 63 := by
  obtain ⟨k, e, _, _⟩ := len_bounds x hx h0
  unfold lz; omega
theorem lz_norm (x : Nat) (hx : x < 2 ^ 64) (h0 : x ≠ 0) : 2 ^ 63 ≤ x * 2 ^ lz x ∧ x * 2 ^ lz x < 2 ^ 64 := by
  obtain ⟨k, e, l, u⟩ := len_bounds x hx h0
  have hk : k < 64 := by
    rcases Nat.lt_or_ge k 64 with h | h
    · exact h
    · exact absurd (Nat.le_trans (Nat.pow_le_pow_right (by omega) h) l) (by omega)
  have e1 : lz x = 63 - k := by unfold lz; omega
  rw [e1]
  have p1 : (2 : Nat) ^ 63 = 2 ^ k * 2 ^ (63 - k) := by rw [← Nat.pow_add]; congr 1; omega
  have p2 : (2 : Nat) ^ 64 = 2 ^ (k + 1) * 2 ^ (63 - k) := by rw [← Nat.pow_add]; congr 1; omega
  rw [p1, p2]
  exact ⟨Nat.mul_le_mul_right _ l, Nat.mul_lt_mul_of_pos_right u (Nat.pow_pos (by omega))⟩
theorem lead_any (x : Int) (w : World) (h0 : 0 ≤ x) (h1 : x ≤ 18446744073709551615) :
    Calls Try.prog 32 #[.int .u64 x] w fun e w' => e = .returned (.int .i64 (64 - (Lib.bitLen x.toNat : Int))) ∧ w = w' := by
  have hl : Lib.bitLen x.toNat ≤ 64 := Lib.bitLen_le _ _ (Nat.le_refl _) (by omega)
  have E : Hid (wrap64 (64 - (Lib.bitLen x.toNat : Int)) = 64 - (Lib.bitLen x.toNat : Int)) := by show _ = _; unfold wrap64; omega
  clear hl
  go_enter Try.func32, Try.ntmps32
  go_wp2_with (go_at_call 35; refine (len64_int _ _ h0 h1).mono ?_; rintro e w' ⟨rfl, rfl⟩)
  go_ret
  exact ⟨by rw [E.out]; rfl, rfl⟩
theorem lead_ex (x : Int) (w : World) (h0 : 0 < x) (h1 : x ≤ 18446744073709551615) :
    Calls Try.prog 32 #[.int .u64 x] w fun e w' => ∃ s : Nat, s ≤ 63 ∧ 9223372036854775808 ≤ x * 2 ^ s ∧ x * 2 ^ s < 18446744073709551616 ∧ e = .returned (.int .i64 s) ∧ w = w' := by
  have hx : x.toNat < 2 ^ 64 := by omega
  have hn : x.toNat ≠ 0 := by omega
  have hl : Lib.bitLen x.toNat ≤ 64 := Lib.bitLen_le _ _ (Nat.le_refl _) hx
  have h2 := lz_norm x.toNat hx hn
  have e2 : ((x.toNat * 2 ^ lz x.toNat : Nat) : Int) = x * 2 ^ lz x.toNat := by
    rw [Int.natCast_mul, Int.natCast_pow, Int.toNat_of_nonneg (by omega)]; rfl
  refine (lead_any x w (by omega) h1).mono ?_
  rintro e w' ⟨rfl, rfl⟩
  refine ⟨lz x.toNat, lz_le _ hx hn, by omega, by omega, ?_, rfl⟩
  rw [show ((lz x.toNat : Nat) : Int) = 64 - (Lib.bitLen x.toNat : Int) by unfold lz; omega]
end Go.Proofs.Ytpmibknabckboaa.Bt

/- The long division of 128 bits by 64, in halves of 32 bits: plain arithmetic; no program is named here. -/
import Derived.Test.YtpmibknabckboaaPure
import Derived.Laws.Bits64b
namespace Go.Proofs.Ytpmibknabckboaa.P
open Go.RowKit

/-- What one step of the division knows: Q is the quotient sought, q the guess, r what the guess leaves by the upper half. -/
structure Guess (u y1 y0 c Q q r : Int) : Prop where
  eq : q * y1 + r = u
  le : Q ≤ q
  top : q ≤ 4294967297
  r0 : 0 ≤ r
  r1 : r < 4294967296
/-- What is fixed in a step: the divisor's halves, the number before it, the next half, the quotient sought. -/
structure Step (u y1 y0 c Q : Int) : Prop where
  y1l : 2147483648 ≤ y1
  y1u : y1 < 4294967296
  y0l : 0 ≤ y0
  y0u : y0 < 4294967296
  cl : 0 ≤ c
  cu : c < 4294967296
  ul : 0 ≤ u
  uu : u < y1 * 4294967296 + y0
  q1 : Q * (y1 * 4294967296 + y0) ≤ u * 4294967296 + c
  q2 : u * 4294967296 + c < Q * (y1 * 4294967296 + y0) + (y1 * 4294967296 + y0)
theorem lt_or_ge_i (a b : Int) : a < b ∨ b ≤ a := by omega
theorem spread (q y1 y0 : Int) : q * (y1 * 4294967296 + y0) = q * y1 * 4294967296 + q * y0 := by rw [Int.mul_add, Int.mul_assoc]
theorem Step.yes {u y1 y0 c Q q r : Int} (s : Step u y1 y0 c Q) (g : q * y1 + r = u) (h : 4294967296 * r + c < q * y0) : Q < q := by
  rcases lt_or_ge_i Q q with h1 | h1
  · exact h1
  · exfalso
    have h2 : q * (y1 * 4294967296 + y0) ≤ Q * (y1 * 4294967296 + y0) := Int.mul_le_mul_of_nonneg_right h1 (by have := s.y1l; have := s.y0l; omega)
    have h3 := s.q1
    rw [spread q] at h2
    omega
theorem Step.no {u y1 y0 c Q q r : Int} (s : Step u y1 y0 c Q) (g : q * y1 + r = u) (h : q * y0 ≤ 4294967296 * r + c) : q ≤ Q := by
  rcases lt_or_ge_i Q q with h1 | h1
  · exfalso
    have h2 : (Q + 1) * (y1 * 4294967296 + y0) ≤ q * (y1 * 4294967296 + y0) := Int.mul_le_mul_of_nonneg_right (by omega) (by have := s.y1l; have := s.y0l; omega)
    rw [Int.add_mul, Int.one_mul, spread q] at h2
    have h3 := s.q2
    omega
  · exact h1
theorem Step.small {u y1 y0 c Q : Int} (s : Step u y1 y0 c Q) : 0 ≤ Q ∧ Q < 4294967296 := by
  have hy : 0 < y1 * 4294967296 + y0 := by have := s.y1l; have := s.y0l; omega
  have a := s.q1; have b := s.q2; have c0 := s.cl; have c1 := s.cu; have u0 := s.ul; have u1 := s.uu
  constructor
  · rcases lt_or_ge_i Q 0 with h1 | h1
    · exfalso
      have h2 : (Q + 1) * (y1 * 4294967296 + y0) ≤ 0 * (y1 * 4294967296 + y0) := Int.mul_le_mul_of_nonneg_right (by omega) (by omega)
      rw [Int.add_mul, Int.one_mul, Int.zero_mul] at h2
      omega
    · exact h1
  · rcases lt_or_ge_i Q 4294967296 with h1 | h1
    · exact h1
    · exfalso
      have h2 : 4294967296 * (y1 * 4294967296 + y0) ≤ Q * (y1 * 4294967296 + y0) := Int.mul_le_mul_of_nonneg_right h1 (by omega)
      omega
theorem Step.start {u y1 y0 c Q : Int} (s : Step u y1 y0 c Q) : Guess u y1 y0 c Q (u / y1) (u % y1) := by
  have hy := s.y1l; have a0 := s.y0l; have a1 := s.y0u; have c0 := s.cl; have b := s.q1; have u0 := s.ul; have u1 := s.uu; have c1 := s.cu; have hy2 := s.y1u
  have e := Int.mul_ediv_add_emod u y1
  have p1 := Int.emod_nonneg u (show y1 ≠ 0 by omega)
  have p2 := Int.emod_lt_of_pos u (show 0 < y1 by omega)
  have e' : u / y1 * y1 + u % y1 = u := by rw [Int.mul_comm]; exact e
  refine ⟨e', ?_, ?_, p1, by omega⟩
  · -- the upper half alone can only give a greater quotient
    rcases lt_or_ge_i (u / y1) Q with h1 | h1
    · exfalso
      have h2 : (u / y1 + 1) * (y1 * 4294967296 + y0) ≤ Q * (y1 * 4294967296 + y0) := Int.mul_le_mul_of_nonneg_right (by omega) (by omega)
      rw [Int.add_mul, Int.one_mul, spread] at h2
      have h3 : 0 ≤ u / y1 * y0 := Int.mul_nonneg (Int.ediv_nonneg u0 (by omega)) a0
      omega
    · exact h1
  · rcases lt_or_ge_i 4294967297 (u / y1) with h1 | h1
    · exfalso
      have h2 : 4294967298 * y1 ≤ u / y1 * y1 := Int.mul_le_mul_of_nonneg_right (by omega) (by omega)
      omega
    · exact h1
/-- Both products of a test stay below 2^64. -/
theorem Step.fits {u y1 y0 c Q q r : Int} (s : Step u y1 y0 c Q) (g : Guess u y1 y0 c Q q r) (h : q < 4294967296) : 0 ≤ q * y0 ∧ q * y0 < 18446744073709551616 ∧ 0 ≤ q := by
  have h0 := s.small.1; have h1 := g.le; have a0 := s.y0l; have a1 := s.y0u
  have h2 : 0 ≤ q := by omega
  have h3 : q * y0 ≤ 4294967296 * y0 := Int.mul_le_mul_of_nonneg_right (by omega) a0
  exact ⟨Int.mul_nonneg h2 a0, by omega, h2⟩
theorem Step.big {u y1 y0 c Q q r : Int} (s : Step u y1 y0 c Q) (_g : Guess u y1 y0 c Q q r) (h : 4294967296 ≤ q) : Q < q := by
  have := s.small.2; omega
/-- One less: the guess holds, or it is the quotient. -/
theorem Guess.next {u y1 y0 c Q q r : Int} (s : Step u y1 y0 c Q) (g : Guess u y1 y0 c Q q r) (h : Q < q) (hr : r + y1 < 4294967296) : Guess u y1 y0 c Q (q - 1) (r + y1) := by
  have e := g.eq; have a := s.y1l; have b := g.r0; have t := g.top
  refine ⟨by rw [Int.sub_mul, Int.one_mul]; omega, by omega, by omega, by omega, hr⟩
theorem Guess.last {u y1 y0 c Q q r : Int} (s : Step u y1 y0 c Q) (g : Guess u y1 y0 c Q q r) (h : Q < q) (hr : 4294967296 ≤ r + y1) : q - 1 = Q := by
  have e := g.eq; have t := g.top; have a0 := s.y0l; have a1 := s.y0u; have c0 := s.cl
  have h1 : (q - 1) * y1 + (r + y1) = u := by rw [Int.sub_mul, Int.one_mul]; omega
  have h2 : (q - 1) * y0 ≤ 4294967296 * y0 := Int.mul_le_mul_of_nonneg_right (by omega) a0
  have h3 := s.no h1 (by omega)
  omega
theorem Guess.done {u y1 y0 c Q q r : Int} (s : Step u y1 y0 c Q) (g : Guess u y1 y0 c Q q r) (h : q * y0 ≤ 4294967296 * r + c) : q = Q := by
  have h1 := s.no g.eq h
  have h2 := g.le
  omega

/-! the numbers as the program makes them -/
theorem u64_in {n : Int} (h0 : 0 ≤ n) (h1 : n < 18446744073709551616) : IntKind.u64.wrap n = n := by rw [u64_mod]; omega
theorem and32 {n : Int} (h0 : 0 ≤ n) (h1 : n < 18446744073709551616) : bits .and .u64 n 4294967295 = n % 4294967296 := by
  obtain ⟨a, rfl⟩ := Int.eq_ofNat_of_zero_le h0
  have h := bits_and_u64_nat a 4294967295 (by omega) (by omega)
  rw [Nat.and_two_pow_sub_one_eq_mod a 32] at h
  rw [show (4294967295 : Int) = ((4294967295 : Nat) : Int) from rfl, h]
  omega
/-- Where the parts do not meet, 'or' is 'plus'. -/
theorem or_parts {a b : Int} {s : Nat} (ha : 0 ≤ a) (hb : 0 ≤ b) (hb2 : b < 2 ^ s) (h : a * 2 ^ s + b < 18446744073709551616) :
    bits .or .u64 (a * 2 ^ s) b = a * 2 ^ s + b := by
  obtain ⟨x, rfl⟩ := Int.eq_ofNat_of_zero_le ha
  obtain ⟨z, rfl⟩ := Int.eq_ofNat_of_zero_le hb
  have e1 : ((x : Int) * 2 ^ s) = ((x * 2 ^ s : Nat) : Int) := by rw [Int.natCast_mul, Int.natCast_pow]; rfl
  have e2 : ((2 : Int) ^ s) = ((2 ^ s : Nat) : Int) := by rw [Int.natCast_pow]; rfl
  rw [e1] at h ⊢
  rw [e2] at hb2
  rw [bits_or_u64_nat _ _ (by omega) (by omega)]
  have h2 : z < 2 ^ s := by omega
  have h3 : x * 2 ^ s ||| z = x * 2 ^ s + z := by
    rw [Nat.mul_comm, Nat.two_pow_add_eq_or_of_lt h2]
  rw [h3]; omega
/-- The whole division, cut at its front: what the program's shifted numbers are. -/
theorem div_front {hi lo y : Int} {s : Nat} (h1 : 0 < hi) (h2 : hi < y) (h4 : 0 ≤ lo) (h5 : lo ≤ 18446744073709551615) (hs : s ≤ 63)
    (n1 : 9223372036854775808 ≤ y * 2 ^ s) (n2 : y * 2 ^ s < 18446744073709551616) :
    ∃ u y1 y0 c1 c0 : Int, bits .and .u64 (y * 2 ^ s) 4294967295 = y0 ∧ y * 2 ^ s / 4294967296 = y1 ∧
      bits .or .u64 (IntKind.u64.wrap (hi * 2 ^ s)) (lo / 2 ^ (64 - s)) = u ∧ IntKind.u64.wrap (lo * 2 ^ s) / 4294967296 = c1 ∧
      bits .and .u64 (IntKind.u64.wrap (lo * 2 ^ s)) 4294967295 = c0 ∧
      y * 2 ^ s = y1 * 4294967296 + y0 ∧ (u * 4294967296 + c1) * 4294967296 + c0 = (hi * 18446744073709551616 + lo) * 2 ^ s ∧
      0 ≤ u ∧ u < y * 2 ^ s ∧ 2147483648 ≤ y1 ∧ y1 < 4294967296 ∧ 0 ≤ y0 ∧ y0 < 4294967296 ∧ 0 ≤ c1 ∧ c1 < 4294967296 ∧ 0 ≤ c0 ∧ c0 < 4294967296 := by
  have hp : (0 : Int) < 2 ^ s := Int.pow_pos (by omega)
  have hp' : (0 : Int) < 2 ^ (64 - s) := Int.pow_pos (by omega)
  have e64 : (2 : Int) ^ (64 - s) * 2 ^ s = 18446744073709551616 := by rw [← Int.pow_add, show 64 - s + s = 64 by omega]; rfl
  -- lo in its upper s bits and the rest
  have dl := Int.mul_ediv_add_emod lo (2 ^ (64 - s))
  have dl0 := Int.emod_nonneg lo (show (2 : Int) ^ (64 - s) ≠ 0 by omega)
  have dl1 := Int.emod_lt_of_pos lo hp'
  generalize hA : lo / 2 ^ (64 - s) = A at *
  generalize hR : lo % 2 ^ (64 - s) = R at *
  have hA0 : 0 ≤ A := by rw [← hA]; exact Int.ediv_nonneg h4 (by omega)
  have hA1 : A < 2 ^ s := by
    rcases lt_or_ge_i A (2 ^ s) with h | h
    · exact h
    · exfalso
      have : 2 ^ (64 - s) * 2 ^ s ≤ 2 ^ (64 - s) * A := Int.mul_le_mul_of_nonneg_left h (by omega)
      omega
  have hlo : lo * 2 ^ s = 18446744073709551616 * A + R * 2 ^ s := by
    rw [← dl, Int.add_mul, Int.mul_assoc, Int.mul_comm A, ← Int.mul_assoc, e64]
  have hR1 : R * 2 ^ s < 18446744073709551616 := by
    rw [← e64]; exact Int.mul_lt_mul_of_pos_right dl1 hp
  have hR0 : 0 ≤ R * 2 ^ s := Int.mul_nonneg dl0 (by omega)
  have hlw : IntKind.u64.wrap (lo * 2 ^ s) = R * 2 ^ s := by rw [hlo, u64_mod]; omega
  have hhy : (hi + 1) * 2 ^ s ≤ y * 2 ^ s := Int.mul_le_mul_of_nonneg_right (by omega) (by omega)
  rw [Int.add_mul, Int.one_mul] at hhy
  have hh0 : 0 ≤ hi * 2 ^ s := Int.mul_nonneg (by omega) (by omega)
  have hhw : IntKind.u64.wrap (hi * 2 ^ s) = hi * 2 ^ s := u64_in hh0 (by omega)
  have hor : bits .or .u64 (IntKind.u64.wrap (hi * 2 ^ s)) A = hi * 2 ^ s + A := by
    rw [hhw]; exact or_parts (by omega) hA0 hA1 (by omega)
  have hall : (hi * 18446744073709551616 + lo) * 2 ^ s = hi * 2 ^ s * 18446744073709551616 + lo * 2 ^ s := by
    rw [Int.add_mul, Int.mul_assoc, Int.mul_comm 18446744073709551616, ← Int.mul_assoc]
  refine ⟨hi * 2 ^ s + A, y * 2 ^ s / 4294967296, y * 2 ^ s % 4294967296, R * 2 ^ s / 4294967296, R * 2 ^ s % 4294967296, and32 (by omega) n2, rfl, hor, by rw [hlw], by rw [hlw]; exact and32 hR0 hR1, by omega, ?_, by omega, by omega, by omega, by omega, by omega, by omega, by omega, by omega, by omega, by omega⟩
  rw [hall, hlo]
  omega
/-- The second step's number is what the first step left. -/
theorem mid {u y1 y0 c Q R : Int} (q1 : u * 4294967296 + c = Q * (y1 * 4294967296 + y0) + R) (r0 : 0 ≤ R) (r1 : R < 18446744073709551616) :
    IntKind.u64.wrap (IntKind.u64.wrap (IntKind.u64.wrap (u * 4294967296) + c) - IntKind.u64.wrap (Q * (y1 * 4294967296 + y0))) = R := by
  rw [u64_mod, u64_mod, u64_mod, u64_mod]; omega
theorem div_back {n y u c1 c0 Y Q1 R1 Q0 R0 p : Int} (hp : 0 < p) (hy : 0 < y) (hY : y * p = Y) (hn : (u * 4294967296 + c1) * 4294967296 + c0 = n * p)
    (h1 : u * 4294967296 + c1 = Q1 * Y + R1) (h0 : R1 * 4294967296 + c0 = Q0 * Y + R0) (r0 : 0 ≤ R0) (r1 : R0 < Y) :
    Q1 * 4294967296 + Q0 = n / y ∧ R0 / p = n % y := by
  have e1 : n * p = (Q1 * 4294967296 + Q0) * Y + R0 := by rw [Int.add_mul, Int.mul_right_comm]; omega
  have e2 : R0 = (n - (Q1 * 4294967296 + Q0) * y) * p := by rw [Int.sub_mul, Int.mul_assoc, hY]; omega
  generalize hD : n - (Q1 * 4294967296 + Q0) * y = D at *
  have d0 : 0 ≤ D := by
    rcases lt_or_ge_i D 0 with h | h
    · exfalso
      have : (D + 1) * p ≤ 0 * p := Int.mul_le_mul_of_nonneg_right (by omega) (by omega)
      rw [Int.add_mul] at this; omega
    · exact h
  have d1 : D < y := by
    rcases lt_or_ge_i D y with h | h
    · exact h
    · exfalso
      have : y * p ≤ D * p := Int.mul_le_mul_of_nonneg_right h (by omega)
      omega
  have hq : n = D + y * (Q1 * 4294967296 + Q0) := by rw [Int.mul_comm]; omega
  refine ⟨?_, ?_⟩
  · rw [hq, Int.add_mul_ediv_left _ _ (by omega), Int.ediv_eq_zero_of_lt d0 d1]; omega
  · rw [e2, Int.mul_ediv_cancel _ (by omega), hq, Int.add_mul_emod_self_left, Int.emod_eq_of_lt d0 d1]
theorem quot_join {Q1 Q0 : Int} (a : 0 ≤ Q1) (b : Q1 < 4294967296) (c : 0 ≤ Q0) (d : Q0 < 4294967296) : IntKind.u64.wrap (IntKind.u64.wrap (Q1 * 4294967296) + Q0) = Q1 * 4294967296 + Q0 := by
  rw [u64_mod, u64_mod]; omega
theorem quot_wrap {u y1 : Int} (h0 : 0 ≤ u) (h1 : u < 18446744073709551616) (h : 0 < y1) : IntKind.u64.wrap (u.tdiv y1) = u / y1 := by
  rw [Int.tdiv_eq_ediv_of_nonneg h0]
  exact u64_in (Int.ediv_nonneg h0 (by omega)) (by have := Int.ediv_le_self y1 h0; omega)
theorem rest_wrap {u y1 : Int} (h0 : 0 ≤ u) (h1 : u < 18446744073709551616) (h : 0 < y1) : IntKind.u64.wrap (u - IntKind.u64.wrap (u / y1 * y1)) = u % y1 := by
  have a1 := Int.mul_ediv_add_emod u y1
  have a2 := Int.emod_nonneg u (show y1 ≠ 0 by omega)
  have a3 : 0 ≤ u / y1 * y1 := Int.mul_nonneg (Int.ediv_nonneg h0 (by omega)) (by omega)
  rw [Int.mul_comm] at a1
  rw [u64_mod, u64_mod]
  omega
theorem cut_num (n y : Int) (h : 0 < y) : ∃ Q R : Int, n = Q * y + R ∧ 0 ≤ R ∧ R < y :=
  ⟨n / y, n % y, by have := Int.mul_ediv_add_emod n y; rw [Int.mul_comm] at this; omega, Int.emod_nonneg _ (by omega), Int.emod_lt_of_pos _ h⟩
end Go.Proofs.Ytpmibknabckboaa.P

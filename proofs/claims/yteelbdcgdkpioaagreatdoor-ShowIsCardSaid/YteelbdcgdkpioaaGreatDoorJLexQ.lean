/- Plain arithmetic on whole numbers of 64 bits: no program is named here. -/
import Derived.RowKit
import Derived.IntWalk
import Derived.Below
import Derived.Lib.Itoa
import Derived.Lib.ItoaNum
import Derived.Lib.Repeat
namespace Go.Proofs.YteelbdcgdkpioaaGreatDoor.P
open Go.RowKit
theorem hid {p : Prop} (h : p) : Hid p := h

/-- A number that 64 bits hold. -/
def I64 (n : Int) : Prop := -9223372036854775808 ≤ n ∧ n ≤ 9223372036854775807
def ok64 (n : Int) : Bool := decide (-9223372036854775808 ≤ n) && decide (n ≤ 9223372036854775807)
theorem ok64_iff (n : Int) : ok64 n = true ↔ I64 n := by unfold ok64 I64; simp
theorem ok64_t {n : Int} (h : I64 n) : ok64 n = true := (ok64_iff n).2 h
theorem ok64_f {n : Int} (h : ¬ I64 n) : ok64 n = false := by
  rw [Bool.eq_false_iff]; intro e; exact h ((ok64_iff n).1 e)
/-- The number, or nought where 64 bits do not hold it. -/
def cut64 (n : Int) : Int := if ok64 n = true then n else 0
theorem cut64_t {n : Int} (h : I64 n) : cut64 n = n := by unfold cut64; rw [if_pos (ok64_t h)]
theorem cut64_f {n : Int} (h : ¬ I64 n) : cut64 n = 0 := by unfold cut64; rw [if_neg (by rw [ok64_iff]; exact h)]
theorem i64_0 : I64 0 := by unfold I64; omega
theorem i64_cut (n : Int) : I64 (cut64 n) := by
  by_cases h : I64 n
  · rw [cut64_t h]; exact h
  · rw [cut64_f h]; exact i64_0
theorem i64_of_wf {n : Int} (h : (Lit.int .i64 n).wf = true) : I64 n := by
  simp only [Lit.wf, IntKind.min, IntKind.max, IntKind.signed, IntKind.bits, Bool.and_eq_true, decide_eq_true_eq, if_true] at h
  unfold I64; omega
theorem wf_of_i64 {n : Int} (h : I64 n) : (Lit.int .i64 n).wf = true := by
  simp only [Lit.wf, IntKind.min, IntKind.max, IntKind.signed, IntKind.bits, Bool.and_eq_true, decide_eq_true_eq, if_true]
  unfold I64 at h; omega
theorem wrap_in {n : Int} (h : I64 n) : wrap64 n = n := by unfold I64 at h; unfold wrap64; omega
theorem i64_wrap (n : Int) : I64 (wrap64 n) := by unfold I64 wrap64; omega

/-! sums and differences, as the program tests them -/
theorem add_test_yes {a b : Int} (h : I64 (a + b)) : (!(decide (a < wrap64 (a + b)) == decide (0 < b))) = false := by
  rw [wrap_in h]
  have : decide (a < a + b) = decide (0 < b) := by rw [decide_eq_decide]; omega
  rw [this]; simp
theorem add_test_no {a b : Int} (ha : I64 a) (hb : I64 b) (h : ¬ I64 (a + b)) : (!(decide (a < wrap64 (a + b)) == decide (0 < b))) = true := by
  by_cases hb0 : 0 < b
  · have : ¬ a < wrap64 (a + b) := by unfold I64 at *; unfold wrap64; omega
    simp [hb0, this]
  · have : a < wrap64 (a + b) := by unfold I64 at *; unfold wrap64; omega
    simp [hb0, this]
theorem sub_test_yes {a b : Int} (h : I64 (a - b)) : (!(decide (wrap64 (a - b) < a) == decide (0 < b))) = false := by
  rw [wrap_in h]
  have : decide (a - b < a) = decide (0 < b) := by rw [decide_eq_decide]; omega
  rw [this]; simp
theorem sub_test_no {a b : Int} (ha : I64 a) (hb : I64 b) (h : ¬ I64 (a - b)) : (!(decide (wrap64 (a - b) < a) == decide (0 < b))) = true := by
  by_cases hb0 : 0 < b
  · have : ¬ wrap64 (a - b) < a := by unfold I64 at *; unfold wrap64; omega
    simp [hb0, this]
  · have : wrap64 (a - b) < a := by unfold I64 at *; unfold wrap64; omega
    simp [hb0, this]

/-! the product, as the program tests it: dividing what went round cannot lead back -/
theorem tdiv_mul_of {a b : Int} (h : a ≠ 0) : (a * b).tdiv a = b := Int.mul_tdiv_cancel_left b h
theorem tdiv_near (n : Int) {a : Int} (h : a ≠ 0) : (n.tdiv a * a - n).natAbs < a.natAbs := by
  have h1 := Int.tmod_add_mul_tdiv n a
  have h2 : (n.tmod a).natAbs < a.natAbs := by
    rw [Int.natAbs_tmod]; exact Nat.mod_lt _ (by omega)
  have h3 : n.tdiv a * a = a * n.tdiv a := Int.mul_comm _ _
  omega
theorem mul_test_no {a b : Int} (ha : I64 a) (h0 : a ≠ 0) (h : ¬ I64 (a * b)) : wrap64 ((wrap64 (a * b)).tdiv a) ≠ b ∨ a = -1 := by
  by_cases h1 : a = -1
  · exact Or.inr h1
  · refine Or.inl ?_
    intro he
    generalize hp : a * b = p at *
    have hw : ∃ k, p = wrap64 p + 18446744073709551616 * k ∧ k ≠ 0 := by
      refine ⟨(p + 9223372036854775808) / 18446744073709551616, ?_, ?_⟩
      · unfold wrap64; omega
      · intro hk; apply h; unfold I64; omega
    obtain ⟨k, hk, hk0⟩ := hw
    have hr := i64_wrap p
    generalize hq : wrap64 p = r at *
    have hnear := tdiv_near r h0
    have hsize : (r.tdiv a).natAbs ≤ 9223372036854775808 := by
      rw [Int.natAbs_tdiv]
      exact Nat.le_trans (Nat.div_le_self _ _) (by unfold I64 at hr; omega)
    -- the quotient itself does not go round, but where it is 2^63: then a is -1
    have hqq : I64 (r.tdiv a) := by
      by_cases hbig : (r.tdiv a).natAbs = 9223372036854775808
      · have hm : (r.tdiv a).natAbs * a.natAbs ≤ 9223372036854775808 := by
          rw [Int.natAbs_tdiv]; exact Nat.le_trans (Nat.div_mul_le_self _ _) (by unfold I64 at hr; omega)
        rw [hbig] at hm
        have ha1 : a.natAbs ≤ 1 := by omega
        have : a = 1 := by omega
        subst this
        rw [Int.tdiv_one]; exact hr
      · unfold I64; omega
    rw [wrap_in hqq] at he
    rw [he] at hnear
    have : b * a = p := by rw [← hp, Int.mul_comm]
    unfold I64 at ha
    omega
theorem mul_test_yes {a b : Int} (hb : I64 b) (h0 : a ≠ 0) (h : I64 (a * b)) : wrap64 ((wrap64 (a * b)).tdiv a) = b := by
  rw [wrap_in h, tdiv_mul_of h0, wrap_in hb]

/-! the quotient, rounded down -/
theorem fdiv_only {a b q r : Int} (hb : b ≠ 0) (he : r + b * q = a) (hp : 0 < b → 0 ≤ r ∧ r < b) (hn : b < 0 → b < r ∧ r ≤ 0) : q = a.fdiv b ∧ r = a.fmod b := by
  have h2 := Int.fmod_add_mul_fdiv a b
  have hfp : 0 < b → 0 ≤ a.fmod b ∧ a.fmod b < b := fun hb' => ⟨Int.fmod_nonneg_of_pos a hb', Int.fmod_lt_of_pos a hb'⟩
  have hfn : b < 0 → b < a.fmod b ∧ a.fmod b ≤ 0 := by
    intro hb'
    have e : a.fmod b = -((-a).fmod (-b)) := by rw [Int.neg_fmod_neg]; omega
    have p1 := Int.fmod_nonneg_of_pos (-a) (b := -b) (by omega)
    have p2 := Int.fmod_lt_of_pos (-a) (b := -b) (by omega)
    omega
  have hd : b * (q - a.fdiv b) = a.fmod b - r := by rw [Int.mul_sub]; omega
  have hq : q - a.fdiv b = 0 := by
    have hsm : (b * (q - a.fdiv b)).natAbs < b.natAbs := by
      rw [hd]
      rcases Int.lt_or_gt_of_ne hb with hlt' | hgt'
      · have := hfn hlt'; have := hn hlt'; omega
      · have := hfp hgt'; have := hp hgt'; omega
    rw [Int.natAbs_mul] at hsm
    have hz : (q - a.fdiv b).natAbs = 0 := by
      rcases Nat.eq_zero_or_pos (q - a.fdiv b).natAbs with hz | hpz
      · exact hz
      · exfalso
        have := Nat.le_mul_of_pos_right b.natAbs hpz
        omega
    omega
  refine ⟨by omega, ?_⟩
  rw [hq] at hd
  simp at hd
  omega
theorem tmod_sign (a b : Int) (hb : b ≠ 0) : (a.tmod b).natAbs < b.natAbs := by
  rw [Int.natAbs_tmod]; exact Nat.mod_lt _ (by omega)
/-- The signs of the rest and of what divided are unlike: one less, and the rest goes to the other side. -/
theorem fdiv_less {a b : Int} (hb : b ≠ 0) (h0 : a.tmod b ≠ 0) (hs : a.tmod b < 0 ↔ ¬ b < 0) : a.tdiv b - 1 = a.fdiv b ∧ a.tmod b + b = a.fmod b := by
  have h1 := Int.tmod_add_mul_tdiv a b
  have hlt := tmod_sign a b hb
  exact fdiv_only hb (by rw [Int.mul_sub]; omega) (fun hb' => by omega) (fun hb' => by omega)
theorem fdiv_like {a b : Int} (hb : b ≠ 0) (hs : a.tmod b = 0 ∨ (a.tmod b < 0 ↔ b < 0)) : a.tdiv b = a.fdiv b ∧ a.tmod b = a.fmod b := by
  have h1 := Int.tmod_add_mul_tdiv a b
  have hlt := tmod_sign a b hb
  exact fdiv_only hb (by omega) (fun hb' => by omega) (fun hb' => by omega)
theorem fmod_pos {a b : Int} (h : 0 < b) : 0 ≤ a.fmod b ∧ a.fmod b < b := ⟨Int.fmod_nonneg_of_pos a h, Int.fmod_lt_of_pos a h⟩
theorem fmod_neg {a b : Int} (h : b < 0) : b < a.fmod b ∧ a.fmod b ≤ 0 := by
  have e : a.fmod b = -((-a).fmod (-b)) := by rw [Int.neg_fmod_neg]; omega
  have p1 := Int.fmod_nonneg_of_pos (-a) (b := -b) (by omega)
  have p2 := Int.fmod_lt_of_pos (-a) (b := -b) (by omega)
  omega
theorem tdiv_size {a b : Int} (ha : I64 a) (hb : b ≠ 0) (h : ¬ (a = -9223372036854775808 ∧ b = -1)) : I64 (a.tdiv b) := by
  have hs : (a.tdiv b).natAbs ≤ a.natAbs := by rw [Int.natAbs_tdiv]; exact Nat.div_le_self _ _
  by_cases hbig : (a.tdiv b).natAbs = 9223372036854775808
  · have hm : (a.tdiv b).natAbs * b.natAbs ≤ 9223372036854775808 := by
      rw [Int.natAbs_tdiv]; exact Nat.le_trans (Nat.div_mul_le_self _ _) (by unfold I64 at ha; omega)
    rw [hbig] at hm
    have hb1 : b = 1 ∨ b = -1 := by omega
    rcases hb1 with rfl | rfl
    · rw [Int.tdiv_one]; exact ha
    · have : a.natAbs = 9223372036854775808 := by unfold I64 at ha; omega
      unfold I64 at ha; omega
  · unfold I64 at *; omega
theorem floor_w1 {a b : Int} (ha : I64 a) (hb : b ≠ 0) (hn : ¬ (a = -9223372036854775808 ∧ b = -1)) (h : a.tmod b = 0) : wrap64 (a.tdiv b) = a.fdiv b ∧ (0 : Int) = a.fmod b := by
  rw [wrap_in (tdiv_size ha hb hn), ← h]; exact fdiv_like hb (Or.inl h)
theorem floor_w2 {a b : Int} (ha : I64 a) (hb' : I64 b) (hb : b ≠ 0) (hn : ¬ (a = -9223372036854775808 ∧ b = -1)) (h : ¬ a.tmod b = 0)
    (h2 : (a.tmod b != 0) = true ∧ (!(decide (a.tmod b < 0) == decide (b < 0))) = true) : wrap64 (wrap64 (a.tdiv b) - 1) = a.fdiv b ∧ wrap64 (a.tmod b + b) = a.fmod b := by
  have hs : a.tmod b < 0 ↔ ¬ b < 0 := by
    have := h2.2
    by_cases c1 : a.tmod b < 0 <;> by_cases c2 : b < 0 <;> simp [c1, c2] at this ⊢
  have hk := fdiv_less hb h hs
  have ht := tdiv_size ha hb hn
  have hm := tmod_sign a b hb
  have h1 := Int.tmod_add_mul_tdiv a b
  rw [wrap_in ht]
  have hlow : a.tdiv b ≠ -9223372036854775808 := by
    intro e
    have hmm : (a.tdiv b).natAbs * b.natAbs ≤ 9223372036854775808 := by
      rw [Int.natAbs_tdiv]; exact Nat.le_trans (Nat.div_mul_le_self _ _) (by unfold I64 at ha; omega)
    rw [e] at hmm
    have hb1 : b.natAbs ≤ 1 := by simp at hmm; omega
    omega
  rw [wrap_in (n := a.tdiv b - 1) (by unfold I64 at *; omega), wrap_in (n := a.tmod b + b) (by unfold I64 at *; omega)]
  exact hk
theorem floor_w3 {a b : Int} (ha : I64 a) (hb : b ≠ 0) (hn : ¬ (a = -9223372036854775808 ∧ b = -1)) (h : ¬ a.tmod b = 0)
    (h2 : (a.tmod b != 0) = false ∨ (!(decide (a.tmod b < 0) == decide (b < 0))) = false) : wrap64 (a.tdiv b) = a.fdiv b ∧ a.tmod b = a.fmod b := by
  rw [wrap_in (tdiv_size ha hb hn)]
  refine fdiv_like hb (Or.inr ?_)
  rcases h2 with h2 | h2
  · simp at h2; exact absurd h2 h
  · by_cases c1 : a.tmod b < 0 <;> by_cases c2 : b < 0 <;> simp [c1, c2] at h2 ⊢

theorem floor_i64 {a b : Int} (ha : I64 a) (hb' : I64 b) (hb : b ≠ 0) (hn : ¬ (a = -9223372036854775808 ∧ b = -1)) : I64 (a.fdiv b) ∧ I64 (a.fmod b) := by
  by_cases h : a.tmod b = 0
  · have := floor_w1 ha hb hn h; rw [← this.1, ← this.2]; exact ⟨i64_wrap _, i64_0⟩
  · by_cases h2 : (a.tmod b != 0) = true ∧ (!(decide (a.tmod b < 0) == decide (b < 0))) = true
    · have := floor_w2 ha hb' hb hn h h2; rw [← this.1, ← this.2]; exact ⟨i64_wrap _, i64_wrap _⟩
    · have h3 : (a.tmod b != 0) = false ∨ (!(decide (a.tmod b < 0) == decide (b < 0))) = false := by
        cases h4 : (a.tmod b != 0) <;> cases h5 : (!(decide (a.tmod b < 0) == decide (b < 0))) <;> simp_all
      have := floor_w3 ha hb hn h h3
      refine ⟨by rw [← this.1]; exact i64_wrap _, ?_⟩
      rw [← this.2]; have := tmod_sign a b hb; unfold I64 at *; omega

/-! numbers of 128 bits in two parts -/
def hiN (n : Nat) : Nat := n / 18446744073709551616
def loN (n : Nat) : Nat := n % 18446744073709551616
def two127 : Nat := 170141183460469231731687303715884105728
def two128 : Nat := 340282366920938463463374607431768211456
theorem hiN_small {n : Nat} (h : n ≤ 9223372036854775808) : hiN n = 0 := by unfold hiN; omega
theorem loN_small {n : Nat} (h : n ≤ 9223372036854775808) : loN n = n := by unfold loN; omega
theorem loN_lt (n : Nat) : loN n < 18446744073709551616 := by unfold loN; omega
theorem hiN_lt {n : Nat} (h : n < two128) : hiN n < 18446744073709551616 := by unfold hiN; unfold two128 at h; omega
theorem hi_lo (n : Nat) : hiN n * 18446744073709551616 + loN n = n := by unfold hiN loN; omega
theorem zero_iff (n : Nat) : (((hiN n : Nat) : Int) == 0 && ((loN n : Nat) : Int) == 0) = (n == 0) := by
  have h := hi_lo n
  have h1 : n = 0 → hiN n = 0 ∧ loN n = 0 := by intro e; subst e; exact ⟨rfl, rfl⟩
  rw [Bool.eq_iff_iff]
  simp only [Bool.and_eq_true, beq_iff_eq]
  constructor
  · intro e; omega
  · intro e; have := h1 e; omega
def wrapU (n : Int) : Int := IntKind.u64.wrap n
theorem wrapU_eq (n : Int) : IntKind.u64.wrap n = n % 18446744073709551616 := by simp [IntKind.wrap, IntKind.bits, IntKind.signed]
theorem u64_mod (n : Int) : IntKind.u64.wrap n = n % 18446744073709551616 := wrapU_eq n
theorem plus_lo (m n : Nat) : IntKind.u64.wrap ((loN m : Int) + (loN n : Int)) = (loN (m + n) : Int) := by
  rw [u64_mod]; unfold loN; omega
theorem plus_test_yes {m n : Nat} (h : 18446744073709551616 ≤ loN m + loN n) : decide (IntKind.u64.wrap ((loN m : Int) + (loN n : Int)) < (loN m : Int)) = true := by
  rw [u64_mod]; have := loN_lt m; have := loN_lt n; simp; omega
theorem plus_test_no {m n : Nat} (h : ¬ 18446744073709551616 ≤ loN m + loN n) : decide (IntKind.u64.wrap ((loN m : Int) + (loN n : Int)) < (loN m : Int)) = false := by
  rw [u64_mod]; have := loN_lt m; have := loN_lt n; simp; omega
theorem plus_hi_yes {m n : Nat} (hs : m + n < two128) (h : 18446744073709551616 ≤ loN m + loN n) : IntKind.u64.wrap (IntKind.u64.wrap ((hiN m : Int) + (hiN n : Int)) + 1) = (hiN (m + n) : Int) := by
  rw [u64_mod, u64_mod]; unfold hiN loN two128 at *; omega
theorem plus_hi_no {m n : Nat} (hs : m + n < two128) (h : ¬ 18446744073709551616 ≤ loN m + loN n) : IntKind.u64.wrap ((hiN m : Int) + (hiN n : Int)) = (hiN (m + n) : Int) := by
  rw [u64_mod]; unfold hiN loN two128 at *; omega
theorem minus_lo {m n : Nat} (h : n ≤ m) : IntKind.u64.wrap ((loN m : Int) - (loN n : Int)) = (loN (m - n) : Int) := by
  rw [u64_mod]; unfold loN; omega
theorem minus_hi_yes {m n : Nat} (hs : m < two128) (h : n ≤ m) (ht : loN m < loN n) : IntKind.u64.wrap (IntKind.u64.wrap ((hiN m : Int) - (hiN n : Int)) - 1) = (hiN (m - n) : Int) := by
  rw [u64_mod, u64_mod]; unfold hiN loN two128 at *; omega
theorem minus_hi_no {m n : Nat} (hs : m < two128) (h : n ≤ m) (ht : ¬ loN m < loN n) : IntKind.u64.wrap ((hiN m : Int) - (hiN n : Int)) = (hiN (m - n) : Int) := by
  rw [u64_mod]; unfold hiN loN two128 at *; omega
theorem min_test_yes {m n : Nat} (h : loN m < loN n) : decide (loN m < loN n) = true := by simp; omega
theorem min_test_no {m n : Nat} (h : ¬ loN m < loN n) : decide (loN m < loN n) = false := by simp; omega
theorem size_iff (m n : Nat) : (decide (hiN m < hiN n) || ((hiN m : Int) == (hiN n : Int) && decide (loN m < loN n))) = decide (m < n) := by
  have h1 := hi_lo m
  have h2 := hi_lo n
  have h3 := loN_lt m
  have h4 := loN_lt n
  rw [Bool.eq_iff_iff]
  simp only [Bool.or_eq_true, Bool.and_eq_true, beq_iff_eq, decide_eq_true_eq]
  omega

/-! the product by parts of 32 bits -/
def M0 (x y : Nat) : Nat := x / 4294967296 * (y / 4294967296) * 18446744073709551616 + x % 4294967296 * (y % 4294967296)
def M1 (x y : Nat) : Nat := x % 4294967296 * (y / 4294967296) * 4294967296
def M2 (x y : Nat) : Nat := x / 4294967296 * (y % 4294967296) * 4294967296
theorem mul_parts (x y : Nat) : M0 x y + M1 x y + M2 x y = x * y := by
  have key : ∀ x1 x0 y1 y0 : Nat, x1 * y1 * 18446744073709551616 + x0 * y0 + x0 * y1 * 4294967296 + x1 * y0 * 4294967296 = (x1 * 4294967296 + x0) * (y1 * 4294967296 + y0) := by
    intro x1 x0 y1 y0; grind
  unfold M0 M1 M2
  rw [key, show x / 4294967296 * 4294967296 + x % 4294967296 = x by omega, show y / 4294967296 * 4294967296 + y % 4294967296 = y by omega]
theorem part_le {a b A B : Nat} (ha : a ≤ A) (hb : b ≤ B) : a * b ≤ A * B := Nat.mul_le_mul ha hb
theorem m0_hi {x y : Nat} (hx : x ≤ 9223372036854775808) (hy : y ≤ 9223372036854775808) : IntKind.u64.wrap ((x : Int) / 4294967296 * ((y : Int) / 4294967296)) = (hiN (M0 x y) : Int) := by
  have h1 : x / 4294967296 * (y / 4294967296) ≤ 2147483648 * 2147483648 := part_le (by omega) (by omega)
  have h2 : x % 4294967296 * (y % 4294967296) ≤ 4294967295 * 4294967295 := part_le (by omega) (by omega)
  have e : (x : Int) / 4294967296 * ((y : Int) / 4294967296) = ((x / 4294967296 * (y / 4294967296) : Nat) : Int) := by simp
  rw [e, u64_mod]
  unfold M0 hiN
  generalize x / 4294967296 * (y / 4294967296) = p at *
  generalize x % 4294967296 * (y % 4294967296) = q at *
  omega
theorem m0_lo {x y : Nat} : IntKind.u64.wrap ((x : Int) % 4294967296 * ((y : Int) % 4294967296)) = (loN (M0 x y) : Int) := by
  have h2 : x % 4294967296 * (y % 4294967296) ≤ 4294967295 * 4294967295 := part_le (by omega) (by omega)
  have e : (x : Int) % 4294967296 * ((y : Int) % 4294967296) = ((x % 4294967296 * (y % 4294967296) : Nat) : Int) := by simp
  rw [e, u64_mod]
  unfold M0 loN
  generalize x / 4294967296 * (y / 4294967296) = p at *
  generalize x % 4294967296 * (y % 4294967296) = q at *
  omega
theorem m1_hi {x y : Nat} (hy : y ≤ 9223372036854775808) : IntKind.u64.wrap ((x : Int) % 4294967296 * ((y : Int) / 4294967296)) / 4294967296 = (hiN (M1 x y) : Int) := by
  have h2 : x % 4294967296 * (y / 4294967296) ≤ 4294967295 * 2147483648 := part_le (by omega) (by omega)
  have e : (x : Int) % 4294967296 * ((y : Int) / 4294967296) = ((x % 4294967296 * (y / 4294967296) : Nat) : Int) := by simp
  rw [e, u64_mod]
  unfold M1 hiN
  generalize x % 4294967296 * (y / 4294967296) = q at *
  omega
theorem m1_lo {x y : Nat} : IntKind.u64.wrap (IntKind.u64.wrap ((x : Int) % 4294967296 * ((y : Int) / 4294967296)) * 4294967296) = (loN (M1 x y) : Int) := by
  have e : (x : Int) % 4294967296 * ((y : Int) / 4294967296) = ((x % 4294967296 * (y / 4294967296) : Nat) : Int) := by simp
  rw [e, u64_mod, u64_mod]
  unfold M1 loN
  generalize x % 4294967296 * (y / 4294967296) = q at *
  omega
theorem m2_hi {x y : Nat} (hx : x ≤ 9223372036854775808) : IntKind.u64.wrap ((x : Int) / 4294967296 * ((y : Int) % 4294967296)) / 4294967296 = (hiN (M2 x y) : Int) := by
  have h2 : x / 4294967296 * (y % 4294967296) ≤ 2147483648 * 4294967295 := part_le (by omega) (by omega)
  have e : (x : Int) / 4294967296 * ((y : Int) % 4294967296) = ((x / 4294967296 * (y % 4294967296) : Nat) : Int) := by simp
  rw [e, u64_mod]
  unfold M2 hiN
  generalize x / 4294967296 * (y % 4294967296) = q at *
  omega
theorem m2_lo {x y : Nat} : IntKind.u64.wrap (IntKind.u64.wrap ((x : Int) / 4294967296 * ((y : Int) % 4294967296)) * 4294967296) = (loN (M2 x y) : Int) := by
  have e : (x : Int) / 4294967296 * ((y : Int) % 4294967296) = ((x / 4294967296 * (y % 4294967296) : Nat) : Int) := by simp
  rw [e, u64_mod, u64_mod]
  unfold M2 loN
  generalize x / 4294967296 * (y % 4294967296) = q at *
  omega
theorem prod_lt {x y : Nat} (hx : x ≤ 9223372036854775808) (hy : y ≤ 9223372036854775808) : x * y < two128 := by
  have := part_le hx hy; unfold two128; omega
theorem prod_lt' {a b : Int} (ha : I64 a) (hb : I64 b) : (a * b).natAbs < two127 := by
  rw [Int.natAbs_mul]
  have : a.natAbs * b.natAbs ≤ 9223372036854775808 * 9223372036854775808 := part_le (by unfold I64 at ha; omega) (by unfold I64 at hb; omega)
  unfold two127; omega
end Go.Proofs.YteelbdcgdkpioaaGreatDoor.P
/- Days of the calendar as plain arithmetic: no program is named here. -/
namespace Go.Proofs.YteelbdcgdkpioaaGreatDoor.P
open Go.RowKit

def leap (y : Int) : Bool := decide (y % 4 = 0 ∧ (y % 100 ≠ 0 ∨ y % 400 = 0))
/-- One where the year is a leap year. -/
def lp (y : Int) : Int := if leap y then 1 else 0
def days (y m : Int) : Int :=
  if m < 1 ∨ 12 < m then 0 else if m = 4 ∨ m = 6 ∨ m = 9 ∨ m = 11 then 30 else if m = 2 then 28 + lp y else 31
def good (y m d : Int) : Bool := decide (1 ≤ y ∧ y ≤ 9999 ∧ 1 ≤ d ∧ d ≤ days y m)
/-- How many days lie ahead of a year. -/
def yrs (y : Int) : Int := 365 * (y - 1) + (y - 1) / 4 - (y - 1) / 100 + (y - 1) / 400
/-- How many days of its year lie ahead of a month. -/
def mon (y m : Int) : Int :=
  if m ≤ 1 then 0 else if m = 2 then 31 else lp y +
    (if m = 3 then 59 else if m = 4 then 90 else if m = 5 then 120 else if m = 6 then 151 else if m = 7 then 181 else if m = 8 then 212
      else if m = 9 then 243 else if m = 10 then 273 else if m = 11 then 304 else if m = 12 then 334 else 365)
def num (y m d : Int) : Int := yrs y + mon y m + d - 1

theorem lp_is (y : Int) : lp y = 0 ∨ lp y = 1 := by unfold lp; split <;> simp
theorem lp_yes {y : Int} (h : leap y = true) : lp y = 1 := by unfold lp; rw [if_pos h]
theorem lp_no {y : Int} (h : leap y = false) : lp y = 0 := by unfold lp; rw [h]; rfl
theorem lp_400 (y : Int) : leap (y + 400) = leap y := by unfold leap; rw [decide_eq_decide]; omega
theorem yrs_step (y : Int) : yrs (y + 1) = yrs y + 365 + lp y := by
  unfold yrs lp leap
  simp only [decide_eq_true_eq]
  split <;> omega
theorem yrs_mono {a b : Int} (h : a ≤ b) : yrs a ≤ yrs b := by unfold yrs; omega
theorem yrs_1 : yrs 1 = 0 := by unfold yrs; omega
theorem yrs_10000 : yrs 10000 = 3652059 := by unfold yrs; omega
theorem yrs_400 (y : Int) : yrs (y + 400) = yrs y + 146097 := by unfold yrs; omega
theorem yrs_guess {n : Int} (h0 : 0 ≤ n) : yrs (n / 366 + 1) ≤ n := by unfold yrs; omega
theorem yrs_bound {y : Int} (h0 : 1 ≤ y) (h1 : y ≤ 10001) : 0 ≤ yrs y ∧ yrs y ≤ 3652425 := by unfold yrs; omega
theorem mon_step {y m : Int} (h0 : 1 ≤ m) (h1 : m ≤ 12) : mon y (m + 1) = mon y m + days y m := by
  have hl := lp_is y
  unfold mon days
  obtain rfl | rfl | rfl | rfl | rfl | rfl | rfl | rfl | rfl | rfl | rfl | rfl : m = 1 ∨ m = 2 ∨ m = 3 ∨ m = 4 ∨ m = 5 ∨ m = 6 ∨ m = 7 ∨ m = 8 ∨ m = 9 ∨ m = 10 ∨ m = 11 ∨ m = 12 := by omega
  all_goals (simp <;> omega)
theorem mon_1 (y : Int) : mon y 1 = 0 := by unfold mon; simp
theorem mon_13 (y : Int) : mon y 13 = 365 + lp y := by unfold mon; simp; omega
theorem days_in {y m : Int} (h0 : 1 ≤ m) (h1 : m ≤ 12) : 28 ≤ days y m ∧ days y m ≤ 31 := by
  have hl := lp_is y
  unfold days
  split
  · omega
  · split
    · omega
    · split <;> omega
theorem days_out {y m : Int} (h : m < 1 ∨ 12 < m) : days y m = 0 := by unfold days; rw [if_pos h]
theorem days_bound (y m : Int) : 0 ≤ days y m ∧ days y m ≤ 31 := by
  by_cases h : m < 1 ∨ 12 < m
  · rw [days_out h]; omega
  · have := days_in (y := y) (m := m) (by omega) (by omega); omega
theorem mon_mono {y a : Int} (h0 : 1 ≤ a) : ∀ (k : Nat), a + k ≤ 13 → mon y a ≤ mon y (a + k)
  | 0, _ => by simp
  | k + 1, h => by
    have h1 := mon_mono (y := y) h0 k (by omega)
    have h2 := mon_step (y := y) (m := a + k) (by omega) (by omega)
    have h3 := days_bound y (a + k)
    rw [show a + ((k + 1 : Nat) : Int) = a + k + 1 by omega]
    omega
theorem mon_le {y a b : Int} (h0 : 1 ≤ a) (h : a ≤ b) (h1 : b ≤ 13) : mon y a ≤ mon y b := by
  have := mon_mono (y := y) h0 (b - a).toNat (by omega)
  rwa [show a + ((b - a).toNat : Int) = b by omega] at this
theorem mon_bound {y m : Int} (h0 : 1 ≤ m) (h1 : m ≤ 13) : 0 ≤ mon y m ∧ mon y m ≤ 366 := by
  have a := mon_le (y := y) (a := 1) (b := m) (by omega) h0 h1
  have b := mon_le (y := y) (a := m) (b := 13) h0 h1 (by omega)
  rw [mon_1] at a; rw [mon_13] at b
  have := lp_is y
  omega
theorem good_iff {y m d : Int} : good y m d = true ↔ 1 ≤ y ∧ y ≤ 9999 ∧ 1 ≤ m ∧ m ≤ 12 ∧ 1 ≤ d ∧ d ≤ days y m := by
  unfold good
  rw [decide_eq_true_eq]
  constructor
  · rintro ⟨a, b, c, e⟩
    have : ¬ (m < 1 ∨ 12 < m) := fun h => by rw [days_out h] at e; omega
    omega
  · rintro ⟨a, b, _, _, c, e⟩; exact ⟨a, b, c, e⟩
/-- A day's number lies within its month, which lies within its year. -/
theorem num_in {y m d : Int} (h : good y m d = true) : yrs y + mon y m ≤ num y m d ∧ num y m d < yrs y + mon y (m + 1) ∧ yrs y ≤ num y m d ∧ num y m d < yrs (y + 1) := by
  obtain ⟨_, _, h1, h2, h3, h4⟩ := good_iff.1 h
  have a := mon_step (y := y) h1 h2
  have b := mon_bound (y := y) h1 (by omega)
  have c := mon_le (y := y) (a := m + 1) (b := 13) (by omega) (by omega) (by omega)
  rw [mon_13] at c
  rw [yrs_step]
  unfold num
  omega
theorem num_bound {y m d : Int} (h : good y m d = true) : 0 ≤ num y m d ∧ num y m d < 3652059 := by
  obtain ⟨h0, h1, _⟩ := good_iff.1 h
  have a := num_in h
  have b := yrs_mono (a := 1) (b := y) h0
  have c := yrs_mono (a := y + 1) (b := 10000) (by omega)
  rw [yrs_1] at b; rw [yrs_10000] at c
  omega
def later (y m d y' m' d' : Int) : Prop := y > y' ∨ y = y' ∧ (m > m' ∨ m = m' ∧ d > d')
theorem num_later {y m d y' m' d' : Int} (g : good y m d = true) (g' : good y' m' d' = true) (h : later y m d y' m' d') : num y m d > num y' m' d' := by
  have a := num_in g
  have b := num_in g'
  obtain ⟨_, _, h1, h2, h3, h4⟩ := good_iff.1 g
  obtain ⟨_, _, k1, k2, k3, k4⟩ := good_iff.1 g'
  rcases h with h | ⟨rfl, h | ⟨rfl, h⟩⟩
  · have := yrs_mono (a := y' + 1) (b := y) (by omega); omega
  · have := mon_le (y := y) (a := m' + 1) (b := m) (by omega) (by omega) (by omega); omega
  · unfold num; omega
theorem later_or (y m d y' m' d' : Int) : later y m d y' m' d' ∨ (y = y' ∧ m = m' ∧ d = d') ∨ later y' m' d' y m d := by unfold later; omega
theorem num_later_iff {y m d y' m' d' : Int} (g : good y m d = true) (g' : good y' m' d' = true) : num y m d > num y' m' d' ↔ later y m d y' m' d' := by
  constructor
  · intro h
    rcases later_or y m d y' m' d' with k | ⟨rfl, rfl, rfl⟩ | k
    · exact k
    · omega
    · have := num_later g' g k; omega
  · exact num_later g g'
theorem num_inj {y m d y' m' d' : Int} (g : good y m d = true) (g' : good y' m' d' = true) (h : num y m d = num y' m' d') : y = y' ∧ m = m' ∧ d = d' := by
  rcases later_or y m d y' m' d' with k | k | k
  · have := num_later g g' k; omega
  · exact k
  · have := num_later g' g k; omega

/-! Texts. -/
/-- A digit's byte. -/
def dch (k : Nat) : UInt8 := UInt8.ofNat (48 + k)
/-- A number in so many digits. -/
def pad : Nat → Nat → List UInt8
  | 0, _ => []
  | k + 1, n => pad k (n / 10) ++ [dch (n % 10)]
theorem pad_length : ∀ k n, (pad k n).length = k
  | 0, _ => rfl
  | k + 1, n => by simp [pad, pad_length k]
theorem pad_0 : ∀ k, pad k 0 = Lib.repeatL [48] k
  | 0 => rfl
  | k + 1 => by
    have e := pad_0 k
    have r : ∀ j, Lib.repeatL [(48 : UInt8)] j ++ [48] = 48 :: Lib.repeatL [48] j := by
      intro j
      induction j with
      | zero => rfl
      | succ j ih => simp only [Lib.repeatL, List.cons_append, List.nil_append, ih]
    show pad k (0 / 10) ++ [dch (0 % 10)] = _
    rw [Nat.zero_div, e, show dch (0 % 10) = 48 from rfl, r]
    rfl
theorem pad_dec : ∀ (k u : Nat), Lib.nDigits u ≤ k → Lib.repeatL [48] (k - Lib.nDigits u) ++ Lib.decDigits u = pad k u
  | 0, u, h => by have := Lib.nDigits_pos u; omega
  | k + 1, u, h => by
    by_cases hu : u < 10
    · rw [Lib.nDigits_small hu, Lib.decDigits_one hu]
      show _ = pad k (u / 10) ++ [dch (u % 10)]
      rw [Nat.div_eq_of_lt hu, Nat.mod_eq_of_lt hu, pad_0, Nat.add_sub_cancel]
      rfl
    · rw [Lib.nDigits_big hu] at h
      rw [Lib.nDigits_big hu, Lib.decDigits, dif_neg hu, ← List.append_assoc, Nat.add_sub_add_right, pad_dec k (u / 10) (by omega)]
      rfl
theorem nDigits_le : ∀ (k u : Nat), u < 10 ^ (k + 1) → Lib.nDigits u ≤ k + 1
  | 0, u, h => by rw [Lib.nDigits_small (by simpa using h)]; exact Nat.le_refl _
  | k + 1, u, h => by
    by_cases hu : u < 10
    · rw [Lib.nDigits_small hu]; omega
    · rw [Lib.nDigits_big hu]
      have := nDigits_le k (u / 10) (by rw [Nat.pow_succ] at h; omega)
      omega
theorem pad_4 (n : Nat) : pad 4 n = [dch (n / 1000 % 10), dch (n / 100 % 10), dch (n / 10 % 10), dch (n % 10)] := by
  simp [pad, Nat.div_div_eq_div_mul]
theorem pad_2 (n : Nat) : pad 2 n = [dch (n / 10 % 10), dch (n % 10)] := by
  simp [pad]
def txt (y m d : Int) : List UInt8 := pad 4 y.toNat ++ [45] ++ pad 2 m.toNat ++ [45] ++ pad 2 d.toNat
theorem txt_length (y m d : Int) : (txt y m d).length = 10 := by simp [txt, pad_length]
theorem txt_is (y m d : Int) : txt y m d =
    [dch (y.toNat / 1000 % 10), dch (y.toNat / 100 % 10), dch (y.toNat / 10 % 10), dch (y.toNat % 10), 45,
      dch (m.toNat / 10 % 10), dch (m.toNat % 10), 45, dch (d.toNat / 10 % 10), dch (d.toNat % 10)] := by
  simp [txt, pad_4, pad_2]
theorem dig_toNat {k : Nat} (h : k < 10) : (dch k).toNat = 48 + k := by simp [dch]; omega

/-! What a text tells. -/
/-- A byte that is a digit. -/
def isD (b : UInt8) : Bool := decide (48 ≤ b.toNat ∧ b.toNat ≤ 57)
theorem isD_dig {k : Nat} (h : k < 10) : isD (dch k) = true := by unfold isD; rw [dig_toNat h]; simp; omega
theorem isD_back {b : UInt8} (h : isD b = true) : dch (b.toNat - 48) = b := by
  unfold isD at h
  rw [decide_eq_true_eq] at h
  rw [dch, show 48 + (b.toNat - 48) = b.toNat by omega]
  simp
theorem isD_lt {b : UInt8} (h : isD b = true) : b.toNat - 48 < 10 := by
  unfold isD at h
  rw [decide_eq_true_eq] at h
  omega
/-- What digits come to. -/
def val (l : List UInt8) : Nat := l.foldl (fun n b => 10 * n + (b.toNat - 48)) 0
theorem val_snoc (l : List UInt8) (b : UInt8) : val (l ++ [b]) = 10 * val l + (b.toNat - 48) := by simp [val]
/-- The form of a day's text: digits, and - where it must stand. -/
def formed (l : List UInt8) : Bool := decide (l.length = 10) && (decide (l.getD 4 0 = 45) && decide (l.getD 7 0 = 45)) && ((l.take 4).all isD && (((l.drop 5).take 2).all isD && (l.drop 8).all isD))
def yearOf (l : List UInt8) : Int := val (l.take 4)
def monthOf (l : List UInt8) : Int := val ((l.drop 5).take 2)
def dayOf (l : List UInt8) : Int := val (l.drop 8)
def reads (l : List UInt8) : Bool := formed l && good (yearOf l) (monthOf l) (dayOf l)
theorem ten {l : List UInt8} (h : l.length = 10) : ∃ a b c d e f g i j k, l = [a, b, c, d, e, f, g, i, j, k] := by
  rcases l with _ | ⟨a, _ | ⟨b, _ | ⟨c, _ | ⟨d, _ | ⟨e, _ | ⟨f, _ | ⟨g, _ | ⟨i, _ | ⟨j, _ | ⟨k, _ | ⟨x, t⟩⟩⟩⟩⟩⟩⟩⟩⟩⟩⟩
  all_goals simp at h
  exact ⟨a, b, c, d, e, f, g, i, j, k, rfl⟩
theorem shape_txt (y m d : Int) : formed (txt y m d) = true := by
  have h : ∀ n, n % 10 < 10 := fun n => Nat.mod_lt _ (by decide)
  rw [txt_is]
  simp [formed, isD_dig, h]
theorem of_txt {y m d : Int} (hy : 0 ≤ y) (hy1 : y ≤ 9999) (hm : 0 ≤ m) (hm1 : m ≤ 99) (hd : 0 ≤ d) (hd1 : d ≤ 99) : yearOf (txt y m d) = y ∧ monthOf (txt y m d) = m ∧ dayOf (txt y m d) = d := by
  have h : ∀ n, n % 10 < 10 := fun n => Nat.mod_lt _ (by decide)
  rw [txt_is]
  simp only [yearOf, monthOf, dayOf, List.take, List.drop, val, List.foldl, dig_toNat (h _)]
  omega
theorem good_small {y m d : Int} (g : good y m d = true) : 0 ≤ y ∧ y ≤ 9999 ∧ 0 ≤ m ∧ m ≤ 99 ∧ 0 ≤ d ∧ d ≤ 99 := by
  obtain ⟨h0, h1, h2, h3, h4, h5⟩ := good_iff.1 g
  have := days_bound y m
  omega
theorem reads_txt {y m d : Int} (g : good y m d = true) : reads (txt y m d) = true := by
  obtain ⟨h0, h1, h2, h3, h4, h5⟩ := good_small g
  obtain ⟨a, b, c⟩ := of_txt h0 h1 h2 h3 h4 h5
  unfold reads
  rw [a, b, c, g, shape_txt]
  rfl
/-- What reads as a day is that day's text. -/
theorem txt_of {l : List UInt8} (h : formed l = true) : txt (yearOf l) (monthOf l) (dayOf l) = l := by
  have hl : l.length = 10 := by
    unfold formed at h
    simp only [Bool.and_eq_true, decide_eq_true_eq] at h
    exact h.1.1
  obtain ⟨a, b, c, d, e, f, g, i, j, k, rfl⟩ := ten hl
  simp [formed] at h
  obtain ⟨⟨rfl, rfl⟩, ⟨ha, hb, hc, hd⟩, ⟨hf, hg⟩, hj, hk⟩ := h
  rw [txt_is]
  have e1 := isD_back ha; have e2 := isD_back hb; have e3 := isD_back hc; have e4 := isD_back hd
  have e5 := isD_back hf; have e6 := isD_back hg; have e7 := isD_back hj; have e8 := isD_back hk
  have l1 := isD_lt ha; have l2 := isD_lt hb; have l3 := isD_lt hc; have l4 := isD_lt hd
  have l5 := isD_lt hf; have l6 := isD_lt hg; have l7 := isD_lt hj; have l8 := isD_lt hk
  generalize a.toNat - 48 = a' at *
  generalize b.toNat - 48 = b' at *
  generalize c.toNat - 48 = c' at *
  generalize d.toNat - 48 = d' at *
  generalize f.toNat - 48 = f' at *
  generalize g.toNat - 48 = g' at *
  generalize j.toNat - 48 = j' at *
  generalize k.toNat - 48 = k' at *
  subst e1 e2 e3 e4 e5 e6 e7 e8
  simp only [yearOf, monthOf, dayOf, List.take, List.drop, val, List.foldl, dig_toNat l1, dig_toNat l2, dig_toNat l3, dig_toNat l4, dig_toNat l5, dig_toNat l6, dig_toNat l7, dig_toNat l8, Int.toNat_natCast]
  simp only [List.cons.injEq, and_true, true_and]
  refine ⟨congrArg dch ?_, congrArg dch ?_, congrArg dch ?_, congrArg dch ?_, congrArg dch ?_, congrArg dch ?_, congrArg dch ?_, congrArg dch ?_⟩ <;> omega
end Go.Proofs.YteelbdcgdkpioaaGreatDoor.P
/- Numbers with a point, as plain arithmetic on letters: no program is named here. -/
namespace Go.Proofs.YteelbdcgdkpioaaGreatDoor.P
open Go.RowKit

/-- A digit, or the point. -/
def isDg (b : UInt8) : Bool := decide (48 ≤ b.toNat ∧ b.toNat ≤ 57)
def isDp (b : UInt8) : Bool := isDg b || b == 46
/-- Whether the first letters say that it is no number. -/
def oddHead (l : List UInt8) : Bool := l.getD 0 0 == 48 && (decide (1 < l.length) && !(l.getD 1 0 == 46))
/-- Whether the letters may stand in a number: digits, at most one point, and that not the last. -/
def evenBody (l : List UInt8) : Bool := l.all isDp && (decide (l.count 46 ≤ 1) && !(l.getLast? == some 46))
/-- A text's form. -/
def fm (l : List UInt8) : Nat := if isDg (l.getD 0 0) && evenBody l && !oddHead l then 1 + l.count 46 else 0
theorem isDg_iff (b : UInt8) : isDg b = true ↔ 48 ≤ b.toNat ∧ b.toNat ≤ 57 := by unfold isDg; rw [decide_eq_true_eq]
theorem isDg_no46 {b : UInt8} (h : isDg b = true) : b ≠ 46 := by
  rintro rfl
  revert h
  decide
theorem getD_nil0 : isDg (([] : List UInt8).getD 0 0) = false := by decide
theorem fm_empty : fm [] = 0 := by decide
theorem fm_first {l : List UInt8} (h : isDg (l.getD 0 0) = false) : fm l = 0 := by unfold fm; rw [h]; rfl
theorem fm_body {l : List UInt8} (h : evenBody l = false) : fm l = 0 := by unfold fm; rw [h]; simp
theorem fm_head {l : List UInt8} (h : oddHead l = true) : fm l = 0 := by unfold fm; rw [h]; simp
theorem fm_is {l : List UInt8} (h0 : isDg (l.getD 0 0) = true) (h1 : evenBody l = true) (h2 : oddHead l = false) : fm l = 1 + l.count 46 := by unfold fm; rw [h0, h1, h2]; rfl
theorem take_snoc {l : List UInt8} {i : Nat} (h : i < l.length) : l.take (i + 1) = l.take i ++ [l.getD i 0] := by
  rw [List.take_add_one, List.getElem?_eq_getElem h, List.getD_eq_getElem?_getD, List.getElem?_eq_getElem h]
  rfl
theorem mem_getD {l : List UInt8} {i : Nat} (h : i < l.length) : l.getD i 0 ∈ l := by
  rw [List.getD_eq_getElem?_getD, List.getElem?_eq_getElem h]
  exact List.getElem_mem h
theorem last_getD {l : List UInt8} {i : Nat} (h : i + 1 = l.length) : l.getLast? = some (l.getD i 0) := by
  rw [List.getLast?_eq_getElem?, show l.length - 1 = i by omega, List.getD_eq_getElem?_getD, List.getElem?_eq_getElem (by omega)]
  rfl
/-- What a walk along the letters knows so far. -/
structure Seen (l : List UInt8) (i p : Nat) : Prop where
  le : i ≤ l.length
  all : (l.take i).all isDp = true
  count : (l.take i).count 46 = p
  one : p ≤ 1
  last : i = l.length → (l.getLast? == some 46) = false
theorem Seen.start {l : List UInt8} (h : 0 < l.length) : Seen l 0 0 := ⟨Nat.zero_le _, rfl, rfl, Nat.zero_le _, fun e => by omega⟩
theorem Seen.digit {l : List UInt8} {i p : Nat} (S : Seen l i p) (h : i < l.length) (hd : isDg (l.getD i 0) = true) : Seen l (i + 1) p := by
  have hn := isDg_no46 hd
  refine ⟨h, ?_, ?_, S.one, fun e => ?_⟩
  · rw [take_snoc h, List.all_append, S.all]
    generalize l.getD i 0 = b at *
    simp [isDp, hd]
  · rw [take_snoc h, List.count_append, S.count, List.count_singleton]
    generalize l.getD i 0 = b at *
    simp [hn]
  · rw [last_getD e]
    generalize l.getD i 0 = b at *
    simpa using hn
theorem Seen.point {l : List UInt8} {i p : Nat} (S : Seen l i p) (h : i < l.length) (hd : l.getD i 0 = 46) (hp : p = 0) (hi : i + 1 ≠ l.length) : Seen l (i + 1) (p + 1) := by
  refine ⟨h, ?_, ?_, by omega, fun e => absurd e hi⟩
  · rw [take_snoc h, List.all_append, S.all, hd]; rfl
  · rw [take_snoc h, List.count_append, S.count, hd]; rfl
theorem Seen.done {l : List UInt8} {p : Nat} (S : Seen l l.length p) : evenBody l = true ∧ l.count 46 = p := by
  have h1 := S.all
  have h2 := S.count
  rw [List.take_length] at h1 h2
  refine ⟨?_, h2⟩
  unfold evenBody
  rw [h1, h2, S.last rfl, decide_eq_true S.one]
  rfl
theorem Seen.two {l : List UInt8} {i p : Nat} (S : Seen l i p) (h : i < l.length) (hd : l.getD i 0 = 46) (hp : p = 1) : evenBody l = false := by
  have e : (l.take (i + 1)).count 46 = 2 := by rw [take_snoc h, List.count_append, S.count, hd, hp]; rfl
  have k : (l.take (i + 1)).count 46 ≤ l.count 46 := (List.take_sublist _ _).count_le _
  unfold evenBody
  rw [decide_eq_false (by omega)]
  simp
theorem ends_point {l : List UInt8} {i : Nat} (h : i + 1 = l.length) (hd : l.getD i 0 = 46) : evenBody l = false := by
  unfold evenBody
  rw [last_getD h, hd]
  simp
theorem bad_letter {l : List UInt8} {i : Nat} (h : i < l.length) (hd : isDg (l.getD i 0) = false) (hp : l.getD i 0 ≠ 46) : evenBody l = false := by
  have e : l.all isDp = false := by
    rw [Bool.eq_false_iff]
    intro k
    rw [List.all_eq_true] at k
    have := k _ (mem_getD h)
    unfold isDp at this
    rw [hd] at this
    simp at this
    exact hp this
  unfold evenBody
  rw [e]
  rfl

/-! What the letters come to. -/
/-- How many digits stand behind the point; -1: there is none. -/
def stB (l : List UInt8) : Int := l.foldl (fun b c => if c = 46 then 0 else if 0 ≤ b then b + 1 else b) (-1)
/-- The digits' number. -/
def stV (l : List UInt8) : Nat := l.foldl (fun v c => if c = 46 then v else 10 * v + (c.toNat - 48)) 0
theorem stB_snoc (l : List UInt8) (c : UInt8) : stB (l ++ [c]) = if c = 46 then 0 else if 0 ≤ stB l then stB l + 1 else stB l := by
  unfold stB
  rw [List.foldl_append]
  rfl
theorem stV_snoc (l : List UInt8) (c : UInt8) : stV (l ++ [c]) = if c = 46 then stV l else 10 * stV l + (c.toNat - 48) := by
  unfold stV
  rw [List.foldl_append]
  rfl
theorem stB_bound : ∀ (k : Nat) (l : List UInt8), l.length = k → -1 ≤ stB l ∧ stB l ≤ k := by
  intro k
  induction k with
  | zero => intro l h; rw [List.length_eq_zero_iff.1 h]; decide
  | succ k ih =>
    intro l h
    have hk : k < l.length := by omega
    have e : l = l.take k ++ [l.getD k 0] := by
      have := take_snoc hk
      rwa [List.take_of_length_le (by omega)] at this
    have h1 := ih (l.take k) (by simp; omega)
    rw [e, stB_snoc]
    split
    · omega
    · split <;> omega
/-- One digit more. -/
theorem acc_step {v d : Int} (hv : 0 ≤ v) (hd : 0 ≤ d) : (ok64 v && ok64 (cut64 v * 10 + d)) = ok64 (v * 10 + d) ∧ (if (ok64 v && ok64 (cut64 v * 10 + d)) = true then cut64 v * 10 + d else 0) = cut64 (v * 10 + d) := by
  by_cases h : I64 v
  · rw [cut64_t h, ok64_t h, Bool.true_and]
    exact ⟨rfl, rfl⟩
  · have h2 : ¬ I64 (v * 10 + d) := by unfold I64 at *; omega
    rw [ok64_f h, ok64_f h2, cut64_f h2]
    exact ⟨rfl, rfl⟩
/-- What Parse comes to: the number, whether the text or the places are bad, whether it is too great. -/
def pK (l : List UInt8) (places : Int) : Nat := (places - max (stB l) 0).toNat
def pV (l : List UInt8) (places : Int) : Int := (stV l : Int) * 10 ^ pK l places
def pBad (l : List UInt8) (places : Int) : Bool := decide (fm l = 0 ∨ places < 0 ∨ 9 < places ∨ places < stB l)
def pGreat (l : List UInt8) (places most : Int) : Bool := !ok64 (pV l places) || decide (most < pV l places)
def pN (l : List UInt8) (places most : Int) : Int := if pBad l places || pGreat l places most then 0 else pV l places
def pW (l : List UInt8) (places most : Int) : Int := if pBad l places then 1 else if pGreat l places most then 2 else 0
theorem fm_all {l : List UInt8} (h : fm l ≠ 0) : l.all isDp = true := by
  cases k : l.all isDp
  · exact absurd (fm_body (by unfold evenBody; rw [k]; rfl)) h
  · rfl
theorem dp_or {l : List UInt8} (h : l.all isDp = true) {i : Nat} (hi : i < l.length) : l.getD i 0 = 46 ∨ isDg (l.getD i 0) = true := by
  rw [List.all_eq_true] at h
  have := h _ (mem_getD hi)
  unfold isDp at this
  simp only [Bool.or_eq_true, beq_iff_eq] at this
  exact this.symm
end Go.Proofs.YteelbdcgdkpioaaGreatDoor.P
/- Letters and tokens, as plain functions on bytes: no program is named here. -/
namespace Go.Proofs.YteelbdcgdkpioaaGreatDoor.P
open Go.RowKit

/-- A letter that may stand in a row. -/
def isLt (b : UInt8) : Bool := decide (b.toNat = 95 ∨ b.toNat = 46 ∨ b.toNat = 45 ∨ (48 ≤ b.toNat ∧ b.toNat ≤ 57) ∨ (97 ≤ b.toNat ∧ b.toNat ≤ 122) ∨ (65 ≤ b.toNat ∧ b.toNat ≤ 90))
def ltI (x : Int) : Bool := decide (x = 95 ∨ x = 46 ∨ x = 45 ∨ (48 ≤ x ∧ x ≤ 57) ∨ (97 ≤ x ∧ x ≤ 122) ∨ (65 ≤ x ∧ x ≤ 90))
theorem ltI_of (b : UInt8) : ltI ((b.toNat : Nat) : Int) = isLt b := by unfold ltI isLt; rw [decide_eq_decide]; omega
/-- The words that are no names. -/
def words : List (List UInt8) := [[112, 108, 97, 110], [99, 117, 114, 114, 101, 110, 99, 121], [104, 111, 114, 105, 122, 111, 110], [109, 101, 116, 101, 114], [117, 110, 105, 116], [109, 97, 120], [102, 101, 101],
  [99, 104, 97, 114, 103, 101], [102, 114, 111, 109], [116, 111], [97, 108, 108, 111, 119, 97, 110, 99, 101], [98, 108, 111, 99, 107], [103, 114, 97, 100, 117, 97, 116, 101, 100], [118, 111, 108, 117, 109, 101], [117, 112, 116, 111],
  [114, 97, 116, 101], [114, 101, 115, 116], [114, 111, 117, 110, 100], [102, 108, 111, 111, 114], [99, 101, 105, 108], [104, 97, 108, 102, 117, 112], [104, 97, 108, 102, 101, 118, 101, 110], [112, 101, 114, 99, 101, 110, 116], [99, 97, 112],
  [109, 105, 110, 105, 109, 117, 109], [97, 100, 100]]
/-- Whether a row has neither a point nor a stroke. -/
def plain (l : List UInt8) : Bool := l.all fun c => !(c == 46) && !(c == 45)
/-- Of what kind letters are; 0: of none. -/
def kd (l : List UInt8) : Nat :=
  if l = [123] ∨ l = [125] ∨ l = [59] then 5
  else if l = [] ∨ l.all isLt = false then 0
  else if words.contains l then 2
  else if plain l && !isDg (l.getD 0 0) then 1
  else if fm l ≠ 0 then 3
  else if reads l then 4
  else 0
end Go.Proofs.YteelbdcgdkpioaaGreatDoor.P
/- A text as tokens, as a plain function on bytes: no program is named here. -/
namespace Go.Proofs.YteelbdcgdkpioaaGreatDoor.P
open Go.RowKit

/-- A token: its kind, its letters, its place. -/
structure Tok where
  k : Nat
  t : List UInt8
  ln : Nat
  cl : Nat
deriving DecidableEq
def isGap (c : UInt8) : Bool := c == 32 || c == 9 || c == 10 || c == 13
def skips (c : UInt8) : Bool := c == 35 || isGap c
/-- How many letters stand in a row. -/
def run (p : UInt8 → Bool) : List UInt8 → Nat
  | [] => 0
  | c :: r => if p c then run p r + 1 else 0
theorem run_le (p : UInt8 → Bool) (l : List UInt8) : run p l ≤ l.length := by
  induction l with
  | nil => exact Nat.le_refl _
  | cons c r ih => unfold run; split <;> simp <;> omega
theorem run_all (p : UInt8 → Bool) (l : List UInt8) : ∀ j, j < run p l → p (l.getD j 0) = true := by
  induction l with
  | nil => intro j hj; simp [run] at hj
  | cons c r ih =>
    intro j hj
    unfold run at hj
    split at hj
    · cases j with
      | zero => assumption
      | succ j => exact ih j (by omega)
    · omega
theorem run_stop (p : UInt8 → Bool) (l : List UInt8) (h : run p l < l.length) : p (l.getD (run p l) 0) = false := by
  induction l with
  | nil => simp at h
  | cons c r ih =>
    unfold run at h ⊢
    split
    · rename_i hc
      rw [if_pos hc] at h
      exact ih (by simpa using h)
    · rename_i hc
      simpa using hc
/-- It is the run's length that all before are, and that the next one is not. -/
theorem run_eq (p : UInt8 → Bool) (l : List UInt8) (n : Nat) (hn : n ≤ l.length) (h1 : ∀ j, j < n → p (l.getD j 0) = true) (h2 : n < l.length → p (l.getD n 0) = false) : run p l = n := by
  induction l generalizing n with
  | nil => simp at hn; simp [run, hn]
  | cons c r ih =>
    unfold run
    cases n with
    | zero =>
      have := h2 (by simp)
      rw [if_neg (by simpa using this)]
    | succ n =>
      have := h1 0 (by omega)
      rw [if_pos (by simpa using this), ih n (by simpa using hn) (fun j hj => by simpa using h1 (j + 1) (by omega)) (fun h => by simpa using h2 (by simpa using h))]
/-- Of how many bytes what stands at the head is. -/
def piece : List UInt8 → Nat
  | [] => 0
  | c :: r => if c == 35 then run (fun x => !(x == 10)) r + 1 else if isGap c then 1 else if isLt c then run isLt r + 1 else 1
theorem piece_cons (c : UInt8) (r : List UInt8) : piece (c :: r) = if c == 35 then run (fun x => !(x == 10)) r + 1 else if isGap c then 1 else if isLt c then run isLt r + 1 else 1 := rfl
theorem piece_pos (c : UInt8) (r : List UInt8) : 0 < piece (c :: r) := by rw [piece_cons]; repeat' split
                                                                          all_goals omega
theorem piece_le (l : List UInt8) : piece l ≤ l.length := by
  cases l with
  | nil => exact Nat.le_refl _
  | cons c r =>
    have h1 := run_le (fun x => !(x == 10)) r
    have h2 := run_le isLt r
    rw [piece_cons, List.length_cons]
    repeat' split
    all_goals omega
/-- All tokens from a place on; and the place of what is none, if there is such. -/
def lx : Nat → List UInt8 → Nat → Nat → List Tok × Option (Nat × Nat)
  | 0, _, ln, cl => ([⟨0, [], ln, cl⟩], none)
  | _ + 1, [], ln, cl => ([⟨0, [], ln, cl⟩], none)
  | n + 1, c :: r, ln, cl =>
    if skips c then lx n ((c :: r).drop (piece (c :: r))) (if c == 10 then ln + 1 else ln) (if c == 10 then 1 else cl + piece (c :: r))
    else if kd ((c :: r).take (piece (c :: r))) = 0 then ([], some (ln, cl))
    else (⟨kd ((c :: r).take (piece (c :: r))), (c :: r).take (piece (c :: r)), ln, cl⟩ :: (lx n ((c :: r).drop (piece (c :: r))) ln (cl + piece (c :: r))).1, (lx n ((c :: r).drop (piece (c :: r))) ln (cl + piece (c :: r))).2)
/-- More fuel changes nothing. -/
theorem lx_fuel (n m : Nat) (l : List UInt8) (ln cl : Nat) (hn : l.length ≤ n) (hm : l.length ≤ m) : lx n l ln cl = lx m l ln cl := by
  induction n generalizing m l ln cl with
  | zero =>
    obtain rfl : l = [] := List.eq_nil_of_length_eq_zero (by omega)
    cases m <;> rfl
  | succ n ih =>
    cases l with
    | nil => cases m <;> rfl
    | cons c r =>
      cases m with
      | zero => simp at hm
      | succ m =>
        have hp := piece_pos c r
        have hd : ((c :: r).drop (piece (c :: r))).length ≤ r.length := by rw [List.length_drop, List.length_cons]; omega
        simp only [List.length_cons] at hn hm
        unfold lx
        have e := fun ln cl => ih m ((c :: r).drop (piece (c :: r))) ln cl (by omega) (by omega)
        rw [e, e]
def lex (l : List UInt8) (ln cl : Nat) : List Tok × Option (Nat × Nat) := lx l.length l ln cl
theorem lex_nil (ln cl : Nat) : lex [] ln cl = ([⟨0, [], ln, cl⟩], none) := rfl
theorem lex_skip {c : UInt8} {r : List UInt8} (h : skips c = true) (ln cl : Nat) :
    lex (c :: r) ln cl = lex ((c :: r).drop (piece (c :: r))) (if c == 10 then ln + 1 else ln) (if c == 10 then 1 else cl + piece (c :: r)) := by
  have hp := piece_pos c r
  show lx (r.length + 1) (c :: r) ln cl = _
  unfold lx
  rw [if_pos h]
  exact lx_fuel _ _ _ _ _ (by rw [List.length_drop, List.length_cons]; omega) (Nat.le_refl _)
theorem lex_bad {c : UInt8} {r : List UInt8} (h : skips c = false) (hk : kd ((c :: r).take (piece (c :: r))) = 0) (ln cl : Nat) : lex (c :: r) ln cl = ([], some (ln, cl)) := by
  show lx (r.length + 1) (c :: r) ln cl = _
  unfold lx
  rw [if_neg (by rw [h]; decide), if_pos hk]
theorem lex_tok {c : UInt8} {r : List UInt8} (h : skips c = false) (hk : kd ((c :: r).take (piece (c :: r))) ≠ 0) (ln cl : Nat) :
    lex (c :: r) ln cl = (⟨kd ((c :: r).take (piece (c :: r))), (c :: r).take (piece (c :: r)), ln, cl⟩ :: (lex ((c :: r).drop (piece (c :: r))) ln (cl + piece (c :: r))).1, (lex ((c :: r).drop (piece (c :: r))) ln (cl + piece (c :: r))).2) := by
  have hp := piece_pos c r
  show lx (r.length + 1) (c :: r) ln cl = _
  unfold lx
  rw [if_neg (by rw [h]; decide), if_neg hk]
  rw [show lx r.length ((c :: r).drop (piece (c :: r))) ln (cl + piece (c :: r)) = lex ((c :: r).drop (piece (c :: r))) ln (cl + piece (c :: r)) from lx_fuel _ _ _ _ _ (by rw [List.length_drop, List.length_cons]; omega) (Nat.le_refl _)]
/-- What Lex answers: tokens, and the error's number and place. -/
def lexed (l : List UInt8) : List Tok × Nat × Nat × Nat :=
  if 8192 < l.length then ([], 6, 1, 1) else
    match (lex l 1 1).2 with
    | none => ((lex l 1 1).1, 0, 0, 0)
    | some (a, b) => ([], 3, a, b)
/-- No more tokens than bytes, and one. -/
theorem lx_count (n : Nat) (l : List UInt8) (ln cl : Nat) (hn : l.length ≤ n) : (lx n l ln cl).1.length ≤ l.length + 1 := by
  induction n generalizing l ln cl with
  | zero => simp [lx]
  | succ n ih =>
    cases l with
    | nil => simp [lx]
    | cons c r =>
      have hp := piece_pos c r
      have hd : ((c :: r).drop (piece (c :: r))).length ≤ r.length := by rw [List.length_drop, List.length_cons]; omega
      simp only [List.length_cons] at hn
      unfold lx
      have e := fun ln cl => ih ((c :: r).drop (piece (c :: r))) ln cl (by omega)
      split
      · refine Nat.le_trans (e _ _) ?_
        simp only [List.length_cons]; omega
      · split
        · simp
        · have := e ln (cl + piece (c :: r))
          simp only [List.length_cons]
          omega
theorem lex_count (l : List UInt8) (ln cl : Nat) : (lex l ln cl).1.length ≤ l.length + 1 := lx_count _ _ _ _ (Nat.le_refl _)
end Go.Proofs.YteelbdcgdkpioaaGreatDoor.P

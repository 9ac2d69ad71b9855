/- Plain arithmetic on whole numbers of 64 bits: no program is named here. -/
import Derived.RowKit
import Derived.IntWalk
import Derived.Below
namespace Go.Proofs.Ytfeccjcdpiopaaa.P
open Go.RowKit
theorem hid {p : Prop} (h : p) : Hid p := h

/-- A number that 64 bits hold. -/
def I64 (n : Int) : Prop := -9223372036854775808 ≤ n ∧ n ≤ 9223372036854775807
def ok64 (n : Int) : Bool := decide (-9223372036854775808 ≤ n) && decide (n ≤ 9223372036854775807)
theorem ok64_iff (n : Int) : ok64 n = true ↔ I64 n := by unfold ok64 I64; simp
theorem ok64_t {n : Int} (h : I64 n) : ok64 n = true := (ok64_iff n).2 h
theorem ok64_f {n : Int} (h : ¬ I64 n) : ok64 n = false := by
  rw [Bool.eq_false_iff]; intro e; exact h ((ok64_iff n).1 e)
/-- The number, or nought where 64 bits do not hold it. -/
def cut64 (n : Int) : Int := if ok64 n = true then n else 0
theorem cut64_t {n : Int} (h : I64 n) : cut64 n = n := by unfold cut64; rw [if_pos (ok64_t h)]
theorem cut64_f {n : Int} (h : ¬ I64 n) : cut64 n = 0 := by unfold cut64; rw [if_neg (by rw [ok64_iff]; exact h)]
theorem i64_0 : I64 0 := by unfold I64; omega
theorem i64_cut (n : Int) : I64 (cut64 n) := by
  by_cases h : I64 n
  · rw [cut64_t h]; exact h
  · rw [cut64_f h]; exact i64_0
theorem i64_of_wf {n : Int} (h : (Lit.int .i64 n).wf = true) : I64 n := by
  simp only [Lit.wf, IntKind.min, IntKind.max, IntKind.signed, IntKind.bits, Bool.and_eq_true, decide_eq_true_eq, if_true] at h
  unfold I64; omega
theorem wf_of_i64 {n : Int} (h : I64 n) : (Lit.int .i64 n).wf = true := by
  simp only [Lit.wf, IntKind.min, IntKind.max, IntKind.signed, IntKind.bits, Bool.and_eq_true, decide_eq_true_eq, if_true]
  unfold I64 at h; omega
theorem wrap_in {n : Int} (h : I64 n) : wrap64 n = n := by unfold I64 at h; unfold wrap64; omega
theorem i64_wrap (n : Int) : I64 (wrap64 n) := by unfold I64 wrap64; omega

/-! sums and differences, as the program tests them -/
theorem add_test_yes {a b : Int} (h : I64 (a + b)) : (!(decide (a < wrap64 (a + b)) == decide (0 < b))) = false := by
  rw [wrap_in h]
  have : decide (a < a + b) = decide (0 < b) := by rw [decide_eq_decide]; omega
  rw [this]; simp
theorem add_test_no {a b : Int} (ha : I64 a) (hb : I64 b) (h : ¬ I64 (a + b)) : (!(decide (a < wrap64 (a + b)) == decide (0 < b))) = true := by
  by_cases hb0 : 0 < b
  · have : ¬ a < wrap64 (a + b) := by unfold I64 at *; unfold wrap64; omega
    simp [hb0, this]
  · have : a < wrap64 (a + b) := by unfold I64 at *; unfold wrap64; omega
    simp [hb0, this]
theorem sub_test_yes {a b : Int} (h : I64 (a - b)) : (!(decide (wrap64 (a - b) < a) == decide (0 < b))) = false := by
  rw [wrap_in h]
  have : decide (a - b < a) = decide (0 < b) := by rw [decide_eq_decide]; omega
  rw [this]; simp
theorem sub_test_no {a b : Int} (ha : I64 a) (hb : I64 b) (h : ¬ I64 (a - b)) : (!(decide (wrap64 (a - b) < a) == decide (0 < b))) = true := by
  by_cases hb0 : 0 < b
  · have : ¬ wrap64 (a - b) < a := by unfold I64 at *; unfold wrap64; omega
    simp [hb0, this]
  · have : wrap64 (a - b) < a := by unfold I64 at *; unfold wrap64; omega
    simp [hb0, this]

/-! the product, as the program tests it: dividing what went round cannot lead back -/
theorem tdiv_mul_of {a b : Int} (h : a ≠ 0) : (a * b).tdiv a = b := Int.mul_tdiv_cancel_left b h
theorem tdiv_near (n : Int) {a : Int} (h : a ≠ 0) : (n.tdiv a * a - n).natAbs < a.natAbs := by
  have h1 := Int.tmod_add_mul_tdiv n a
  have h2 : (n.tmod a).natAbs < a.natAbs := by
    rw [Int.natAbs_tmod]; exact Nat.mod_lt _ (by omega)
  have h3 : n.tdiv a * a = a * n.tdiv a := Int.mul_comm _ _
  omega
theorem mul_test_no {a b : Int} (ha : I64 a) (h0 : a ≠ 0) (h : ¬ I64 (a * b)) : wrap64 ((wrap64 (a * b)).tdiv a) ≠ b ∨ a = -1 := by
  by_cases h1 : a = -1
  · exact Or.inr h1
  · refine Or.inl ?_
    intro he
    generalize hp : a * b = p at *
    have hw : ∃ k, p = wrap64 p + 18446744073709551616 * k ∧ k ≠ 0 := by
      refine ⟨(p + 9223372036854775808) / 18446744073709551616, ?_, ?_⟩
      · unfold wrap64; omega
      · intro hk; apply h; unfold I64; omega
    obtain ⟨k, hk, hk0⟩ := hw
    have hr := i64_wrap p
    generalize hq : wrap64 p = r at *
    have hnear := tdiv_near r h0
    have hsize : (r.tdiv a).natAbs ≤ 9223372036854775808 := by
      rw [Int.natAbs_tdiv]
      exact Nat.le_trans (Nat.div_le_self _ _) (by unfold I64 at hr; omega)
    -- the quotient itself does not go round, but where it is 2^63: then a is -1
    have hqq : I64 (r.tdiv a) := by
      by_cases hbig : (r.tdiv a).natAbs = 9223372036854775808
      · have hm : (r.tdiv a).natAbs * a.natAbs ≤ 9223372036854775808 := by
          rw [Int.natAbs_tdiv]; exact Nat.le_trans (Nat.div_mul_le_self _ _) (by unfold I64 at hr; omega)
        rw [hbig] at hm
        have ha1 : a.natAbs ≤ 1 := by omega
        have : a = 1 := by omega
        subst this
        rw [Int.tdiv_one]; exact hr
      · unfold I64; omega
    rw [wrap_in hqq] at he
    rw [he] at hnear
    have : b * a = p := by rw [← hp, Int.mul_comm]
    unfold I64 at ha
    omega
theorem mul_test_yes {a b : Int} (hb : I64 b) (h0 : a ≠ 0) (h : I64 (a * b)) : wrap64 ((wrap64 (a * b)).tdiv a) = b := by
  rw [wrap_in h, tdiv_mul_of h0, wrap_in hb]

/-! the quotient, rounded down -/
theorem fdiv_only {a b q r : Int} (hb : b ≠ 0) (he : r + b * q = a) (hp : 0 < b → 0 ≤ r ∧ r < b) (hn : b < 0 → b < r ∧ r ≤ 0) : q = a.fdiv b ∧ r = a.fmod b := by
  have h2 := Int.fmod_add_mul_fdiv a b
  have hfp : 0 < b → 0 ≤ a.fmod b ∧ a.fmod b < b := fun hb' => ⟨Int.fmod_nonneg_of_pos a hb', Int.fmod_lt_of_pos a hb'⟩
  have hfn : b < 0 → b < a.fmod b ∧ a.fmod b ≤ 0 := by
    intro hb'
    have e : a.fmod b = -((-a).fmod (-b)) := by rw [Int.neg_fmod_neg]; omega
    have p1 := Int.fmod_nonneg_of_pos (-a) (b := -b) (by omega)
    have p2 := Int.fmod_lt_of_pos (-a) (b := -b) (by omega)
    omega
  have hd : b * (q - a.fdiv b) = a.fmod b - r := by rw [Int.mul_sub]; omega
  have hq : q - a.fdiv b = 0 := by
    have hsm : (b * (q - a.fdiv b)).natAbs < b.natAbs := by
      rw [hd]
      rcases Int.lt_or_gt_of_ne hb with hlt' | hgt'
      · have := hfn hlt'; have := hn hlt'; omega
      · have := hfp hgt'; have := hp hgt'; omega
    rw [Int.natAbs_mul] at hsm
    have hz : (q - a.fdiv b).natAbs = 0 := by
      rcases Nat.eq_zero_or_pos (q - a.fdiv b).natAbs with hz | hpz
      · exact hz
      · exfalso
        have := Nat.le_mul_of_pos_right b.natAbs hpz
        omega
    omega
  refine ⟨by omega, ?_⟩
  rw [hq] at hd
  simp at hd
  omega
theorem tmod_sign (a b : Int) (hb : b ≠ 0) : (a.tmod b).natAbs < b.natAbs := by
  rw [Int.natAbs_tmod]; exact Nat.mod_lt _ (by omega)
/-- The signs of the rest and of what divided are unlike: one less, and the rest goes to the other side. -/
theorem fdiv_less {a b : Int} (hb : b ≠ 0) (h0 : a.tmod b ≠ 0) (hs : a.tmod b < 0 ↔ ¬ b < 0) : a.tdiv b - 1 = a.fdiv b ∧ a.tmod b + b = a.fmod b := by
  have h1 := Int.tmod_add_mul_tdiv a b
  have hlt := tmod_sign a b hb
  exact fdiv_only hb (by rw [Int.mul_sub]; omega) (fun hb' => by omega) (fun hb' => by omega)
theorem fdiv_like {a b : Int} (hb : b ≠ 0) (hs : a.tmod b = 0 ∨ (a.tmod b < 0 ↔ b < 0)) : a.tdiv b = a.fdiv b ∧ a.tmod b = a.fmod b := by
  have h1 := Int.tmod_add_mul_tdiv a b
  have hlt := tmod_sign a b hb
  exact fdiv_only hb (by omega) (fun hb' => by omega) (fun hb' => by omega)
theorem fmod_pos {a b : Int} (h : 0 < b) : 0 ≤ a.fmod b ∧ a.fmod b < b := ⟨Int.fmod_nonneg_of_pos a h, Int.fmod_lt_of_pos a h⟩
theorem fmod_neg {a b : Int} (h : b < 0) : b < a.fmod b ∧ a.fmod b ≤ 0 := by
  have e : a.fmod b = -((-a).fmod (-b)) := by rw [Int.neg_fmod_neg]; omega
  have p1 := Int.fmod_nonneg_of_pos (-a) (b := -b) (by omega)
  have p2 := Int.fmod_lt_of_pos (-a) (b := -b) (by omega)
  omega
theorem tdiv_size {a b : Int} (ha : I64 a) (hb : b ≠ 0) (h : ¬ (a = -9223372036854775808 ∧ b = -1)) : I64 (a.tdiv b) := by
  have hs : (a.tdiv b).natAbs ≤ a.natAbs := by rw [Int.natAbs_tdiv]; exact Nat.div_le_self _ _
  by_cases hbig : (a.tdiv b).natAbs = 9223372036854775808
  · have hm : (a.tdiv b).natAbs * b.natAbs ≤ 9223372036854775808 := by
      rw [Int.natAbs_tdiv]; exact Nat.le_trans (Nat.div_mul_le_self _ _) (by unfold I64 at ha; omega)
    rw [hbig] at hm
    have hb1 : b = 1 ∨ b = -1 := by omega
    rcases hb1 with rfl | rfl
    · rw [Int.tdiv_one]; exact ha
    · have : a.natAbs = 9223372036854775808 := by unfold I64 at ha; omega
      unfold I64 at ha; omega
  · unfold I64 at *; omega
theorem floor_w1 {a b : Int} (ha : I64 a) (hb : b ≠ 0) (hn : ¬ (a = -9223372036854775808 ∧ b = -1)) (h : a.tmod b = 0) : wrap64 (a.tdiv b) = a.fdiv b ∧ (0 : Int) = a.fmod b := by
  rw [wrap_in (tdiv_size ha hb hn), ← h]; exact fdiv_like hb (Or.inl h)
theorem floor_w2 {a b : Int} (ha : I64 a) (hb' : I64 b) (hb : b ≠ 0) (hn : ¬ (a = -9223372036854775808 ∧ b = -1)) (h : ¬ a.tmod b = 0)
    (h2 : (a.tmod b != 0) = true ∧ (!(decide (a.tmod b < 0) == decide (b < 0))) = true) : wrap64 (wrap64 (a.tdiv b) - 1) = a.fdiv b ∧ wrap64 (a.tmod b + b) = a.fmod b := by
  have hs : a.tmod b < 0 ↔ ¬ b < 0 := by
    have := h2.2
    by_cases c1 : a.tmod b < 0 <;> by_cases c2 : b < 0 <;> simp [c1, c2] at this ⊢
  have hk := fdiv_less hb h hs
  have ht := tdiv_size ha hb hn
  have hm := tmod_sign a b hb
  have h1 := Int.tmod_add_mul_tdiv a b
  rw [wrap_in ht]
  have hlow : a.tdiv b ≠ -9223372036854775808 := by
    intro e
    have hmm : (a.tdiv b).natAbs * b.natAbs ≤ 9223372036854775808 := by
      rw [Int.natAbs_tdiv]; exact Nat.le_trans (Nat.div_mul_le_self _ _) (by unfold I64 at ha; omega)
    rw [e] at hmm
    have hb1 : b.natAbs ≤ 1 := by simp at hmm; omega
    omega
  rw [wrap_in (n := a.tdiv b - 1) (by unfold I64 at *; omega), wrap_in (n := a.tmod b + b) (by unfold I64 at *; omega)]
  exact hk
theorem floor_w3 {a b : Int} (ha : I64 a) (hb : b ≠ 0) (hn : ¬ (a = -9223372036854775808 ∧ b = -1)) (h : ¬ a.tmod b = 0)
    (h2 : (a.tmod b != 0) = false ∨ (!(decide (a.tmod b < 0) == decide (b < 0))) = false) : wrap64 (a.tdiv b) = a.fdiv b ∧ a.tmod b = a.fmod b := by
  rw [wrap_in (tdiv_size ha hb hn)]
  refine fdiv_like hb (Or.inr ?_)
  rcases h2 with h2 | h2
  · simp at h2; exact absurd h2 h
  · by_cases c1 : a.tmod b < 0 <;> by_cases c2 : b < 0 <;> simp [c1, c2] at h2 ⊢

theorem floor_i64 {a b : Int} (ha : I64 a) (hb' : I64 b) (hb : b ≠ 0) (hn : ¬ (a = -9223372036854775808 ∧ b = -1)) : I64 (a.fdiv b) ∧ I64 (a.fmod b) := by
  by_cases h : a.tmod b = 0
  · have := floor_w1 ha hb hn h; rw [← this.1, ← this.2]; exact ⟨i64_wrap _, i64_0⟩
  · by_cases h2 : (a.tmod b != 0) = true ∧ (!(decide (a.tmod b < 0) == decide (b < 0))) = true
    · have := floor_w2 ha hb' hb hn h h2; rw [← this.1, ← this.2]; exact ⟨i64_wrap _, i64_wrap _⟩
    · have h3 : (a.tmod b != 0) = false ∨ (!(decide (a.tmod b < 0) == decide (b < 0))) = false := by
        cases h4 : (a.tmod b != 0) <;> cases h5 : (!(decide (a.tmod b < 0) == decide (b < 0))) <;> simp_all
      have := floor_w3 ha hb hn h h3
      refine ⟨by rw [← this.1]; exact i64_wrap _, ?_⟩
      rw [← this.2]; have := tmod_sign a b hb; unfold I64 at *; omega

/-! numbers of 128 bits in two parts -/
def hiN (n : Nat) : Nat := n / 18446744073709551616
def loN (n : Nat) : Nat := n % 18446744073709551616
def two127 : Nat := 170141183460469231731687303715884105728
def two128 : Nat := 340282366920938463463374607431768211456
theorem hiN_small {n : Nat} (h : n ≤ 9223372036854775808) : hiN n = 0 := by unfold hiN; omega
theorem loN_small {n : Nat} (h : n ≤ 9223372036854775808) : loN n = n := by unfold loN; omega
theorem loN_lt (n : Nat) : loN n < 18446744073709551616 := by unfold loN; omega
theorem hiN_lt {n : Nat} (h : n < two128) : hiN n < 18446744073709551616 := by unfold hiN; unfold two128 at h; omega
theorem hi_lo (n : Nat) : hiN n * 18446744073709551616 + loN n = n := by unfold hiN loN; omega
theorem zero_iff (n : Nat) : (((hiN n : Nat) : Int) == 0 && ((loN n : Nat) : Int) == 0) = (n == 0) := by
  have h := hi_lo n
  have h1 : n = 0 → hiN n = 0 ∧ loN n = 0 := by intro e; subst e; exact ⟨rfl, rfl⟩
  rw [Bool.eq_iff_iff]
  simp only [Bool.and_eq_true, beq_iff_eq]
  constructor
  · intro e; omega
  · intro e; have := h1 e; omega
def wrapU (n : Int) : Int := IntKind.u64.wrap n
theorem wrapU_eq (n : Int) : IntKind.u64.wrap n = n % 18446744073709551616 := by simp [IntKind.wrap, IntKind.bits, IntKind.signed]
theorem u64_mod (n : Int) : IntKind.u64.wrap n = n % 18446744073709551616 := wrapU_eq n
theorem plus_lo (m n : Nat) : IntKind.u64.wrap ((loN m : Int) + (loN n : Int)) = (loN (m + n) : Int) := by
  rw [u64_mod]; unfold loN; omega
theorem plus_test_yes {m n : Nat} (h : 18446744073709551616 ≤ loN m + loN n) : decide (IntKind.u64.wrap ((loN m : Int) + (loN n : Int)) < (loN m : Int)) = true := by
  rw [u64_mod]; have := loN_lt m; have := loN_lt n; simp; omega
theorem plus_test_no {m n : Nat} (h : ¬ 18446744073709551616 ≤ loN m + loN n) : decide (IntKind.u64.wrap ((loN m : Int) + (loN n : Int)) < (loN m : Int)) = false := by
  rw [u64_mod]; have := loN_lt m; have := loN_lt n; simp; omega
theorem plus_hi_yes {m n : Nat} (hs : m + n < two128) (h : 18446744073709551616 ≤ loN m + loN n) : IntKind.u64.wrap (IntKind.u64.wrap ((hiN m : Int) + (hiN n : Int)) + 1) = (hiN (m + n) : Int) := by
  rw [u64_mod, u64_mod]; unfold hiN loN two128 at *; omega
theorem plus_hi_no {m n : Nat} (hs : m + n < two128) (h : ¬ 18446744073709551616 ≤ loN m + loN n) : IntKind.u64.wrap ((hiN m : Int) + (hiN n : Int)) = (hiN (m + n) : Int) := by
  rw [u64_mod]; unfold hiN loN two128 at *; omega
theorem minus_lo {m n : Nat} (h : n ≤ m) : IntKind.u64.wrap ((loN m : Int) - (loN n : Int)) = (loN (m - n) : Int) := by
  rw [u64_mod]; unfold loN; omega
theorem minus_hi_yes {m n : Nat} (hs : m < two128) (h : n ≤ m) (ht : loN m < loN n) : IntKind.u64.wrap (IntKind.u64.wrap ((hiN m : Int) - (hiN n : Int)) - 1) = (hiN (m - n) : Int) := by
  rw [u64_mod, u64_mod]; unfold hiN loN two128 at *; omega
theorem minus_hi_no {m n : Nat} (hs : m < two128) (h : n ≤ m) (ht : ¬ loN m < loN n) : IntKind.u64.wrap ((hiN m : Int) - (hiN n : Int)) = (hiN (m - n) : Int) := by
  rw [u64_mod]; unfold hiN loN two128 at *; omega
theorem min_test_yes {m n : Nat} (h : loN m < loN n) : decide (loN m < loN n) = true := by simp; omega
theorem min_test_no {m n : Nat} (h : ¬ loN m < loN n) : decide (loN m < loN n) = false := by simp; omega
theorem size_iff (m n : Nat) : (decide (hiN m < hiN n) || ((hiN m : Int) == (hiN n : Int) && decide (loN m < loN n))) = decide (m < n) := by
  have h1 := hi_lo m
  have h2 := hi_lo n
  have h3 := loN_lt m
  have h4 := loN_lt n
  rw [Bool.eq_iff_iff]
  simp only [Bool.or_eq_true, Bool.and_eq_true, beq_iff_eq, decide_eq_true_eq]
  omega

/-! the product by parts of 32 bits -/
def M0 (x y : Nat) : Nat := x / 4294967296 * (y / 4294967296) * 18446744073709551616 + x % 4294967296 * (y % 4294967296)
def M1 (x y : Nat) : Nat := x % 4294967296 * (y / 4294967296) * 4294967296
def M2 (x y : Nat) : Nat := x / 4294967296 * (y % 4294967296) * 4294967296
theorem mul_parts (x y : Nat) : M0 x y + M1 x y + M2 x y = x * y := by
  have key : ∀ x1 x0 y1 y0 : Nat, x1 * y1 * 18446744073709551616 + x0 * y0 + x0 * y1 * 4294967296 + x1 * y0 * 4294967296 = (x1 * 4294967296 + x0) * (y1 * 4294967296 + y0) := by
    intro x1 x0 y1 y0; grind
  unfold M0 M1 M2
  rw [key, show x / 4294967296 * 4294967296 + x % 4294967296 = x by omega, show y / 4294967296 * 4294967296 + y % 4294967296 = y by omega]
theorem part_le {a b A B : Nat} (ha : a ≤ A) (hb : b ≤ B) : a * b ≤ A * B := Nat.mul_le_mul ha hb
theorem m0_hi {x y : Nat} (hx : x ≤ 9223372036854775808) (hy : y ≤ 9223372036854775808) : IntKind.u64.wrap ((x : Int) / 4294967296 * ((y : Int) / 4294967296)) = (hiN (M0 x y) : Int) := by
  have h1 : x / 4294967296 * (y / 4294967296) ≤ 2147483648 * 2147483648 := part_le (by omega) (by omega)
  have h2 : x % 4294967296 * (y % 4294967296) ≤ 4294967295 * 4294967295 := part_le (by omega) (by omega)
  have e : (x : Int) / 4294967296 * ((y : Int) / 4294967296) = ((x / 4294967296 * (y / 4294967296) : Nat) : Int) := by simp
  rw [e, u64_mod]
  unfold M0 hiN
  generalize x / 4294967296 * (y / 4294967296) = p at *
  generalize x % 4294967296 * (y % 4294967296) = q at *
  omega
theorem m0_lo {x y : Nat} : IntKind.u64.wrap ((x : Int) % 4294967296 * ((y : Int) % 4294967296)) = (loN (M0 x y) : Int) := by
  have h2 : x % 4294967296 * (y % 4294967296) ≤ 4294967295 * 4294967295 := part_le (by omega) (by omega)
  have e : (x : Int) % 4294967296 * ((y : Int) % 4294967296) = ((x % 4294967296 * (y % 4294967296) : Nat) : Int) := by simp
  rw [e, u64_mod]
  unfold M0 loN
  generalize x / 4294967296 * (y / 4294967296) = p at *
  generalize x % 4294967296 * (y % 4294967296) = q at *
  omega
theorem m1_hi {x y : Nat} (hy : y ≤ 9223372036854775808) : IntKind.u64.wrap ((x : Int) % 4294967296 * ((y : Int) / 4294967296)) / 4294967296 = (hiN (M1 x y) : Int) := by
  have h2 : x % 4294967296 * (y / 4294967296) ≤ 4294967295 * 2147483648 := part_le (by omega) (by omega)
  have e : (x : Int) % 4294967296 * ((y : Int) / 4294967296) = ((x % 4294967296 * (y / 4294967296) : Nat) : Int) := by simp
  rw [e, u64_mod]
  unfold M1 hiN
  generalize x % 4294967296 * (y / 4294967296) = q at *
  omega
theorem m1_lo {x y : Nat} : IntKind.u64.wrap (IntKind.u64.wrap ((x : Int) % 4294967296 * ((y : Int) / 4294967296)) * 4294967296) = (loN (M1 x y) : Int) := by
  have e : (x : Int) % 4294967296 * ((y : Int) / 4294967296) = ((x % 4294967296 * (y / 4294967296) : Nat) : Int) := by simp
  rw [e, u64_mod, u64_mod]
  unfold M1 loN
  generalize x % 4294967296 * (y / 4294967296) = q at *
  omega
theorem m2_hi {x y : Nat} (hx : x ≤ 9223372036854775808) : IntKind.u64.wrap ((x : Int) / 4294967296 * ((y : Int) % 4294967296)) / 4294967296 = (hiN (M2 x y) : Int) := by
  have h2 : x / 4294967296 * (y % 4294967296) ≤ 2147483648 * 4294967295 := part_le (by omega) (by omega)
  have e : (x : Int) / 4294967296 * ((y : Int) % 4294967296) = ((x / 4294967296 * (y % 4294967296) : Nat) : Int) := by simp
  rw [e, u64_mod]
  unfold M2 hiN
  generalize x / 4294967296 * (y % 4294967296) = q at *
  omega
theorem m2_lo {x y : Nat} : IntKind.u64.wrap (IntKind.u64.wrap ((x : Int) / 4294967296 * ((y : Int) % 4294967296)) * 4294967296) = (loN (M2 x y) : Int) := by
  have e : (x : Int) / 4294967296 * ((y : Int) % 4294967296) = ((x / 4294967296 * (y % 4294967296) : Nat) : Int) := by simp
  rw [e, u64_mod, u64_mod]
  unfold M2 loN
  generalize x / 4294967296 * (y % 4294967296) = q at *
  omega
theorem prod_lt {x y : Nat} (hx : x ≤ 9223372036854775808) (hy : y ≤ 9223372036854775808) : x * y < two128 := by
  have := part_le hx hy; unfold two128; omega
theorem prod_lt' {a b : Int} (ha : I64 a) (hb : I64 b) : (a * b).natAbs < two127 := by
  rw [Int.natAbs_mul]
  have : a.natAbs * b.natAbs ≤ 9223372036854775808 * 9223372036854775808 := part_le (by unfold I64 at ha; omega) (by unfold I64 at hb; omega)
  unfold two127; omega
end Go.Proofs.Ytfeccjcdpiopaaa.P

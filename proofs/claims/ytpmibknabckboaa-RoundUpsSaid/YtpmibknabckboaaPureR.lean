/- Rounding, as plain arithmetic: no program is named here. -/
import Derived.Test.YtpmibknabckboaaPureD
namespace Go.Proofs.Ytpmibknabckboaa.P
open Go.RowKit

/-- Whether what is left is rounded up: q the number below, r the rest of c parts. -/
def rup (q r c mode : Int) : Bool :=
  if mode = 0 then false else if mode = 1 then decide (0 < r) else if mode = 2 then decide (c ≤ 2 * r) else decide (c < 2 * r) || (decide (2 * r = c) && decide (q % 2 ≠ 0))
/-- p by c, rounded. -/
def rnd (p c mode : Int) : Int := p / c + (if rup (p / c) (p % c) c mode = true then 1 else 0)
def goodm (mode : Int) : Bool := decide (0 ≤ mode) && decide (mode ≤ 3)
theorem goodm_iff (mode : Int) : goodm mode = true ↔ 0 ≤ mode ∧ mode ≤ 3 := by unfold goodm; simp
def mdok (c mode : Int) : Bool := decide (0 < c) && goodm mode
/-- What MulDiv answers. -/
def mdn (p c mode : Int) : Int := if mdok c mode = true then cut64 (rnd p c mode) else 0
def mdb (p c mode : Int) : Bool := mdok c mode && ok64 (rnd p c mode)
theorem mdn_good {p c mode : Int} (hc : 0 < c) (hm : goodm mode = true) : mdn p c mode = cut64 (rnd p c mode) := by unfold mdn mdok; simp [hc, hm]
theorem mdb_good {p c mode : Int} (hc : 0 < c) (hm : goodm mode = true) : mdb p c mode = ok64 (rnd p c mode) := by unfold mdb mdok; simp [hc, hm]
theorem mdn_c {p c mode : Int} (hc : c ≤ 0) : mdn p c mode = 0 := by unfold mdn mdok; rw [decide_eq_false (by omega : ¬ 0 < c)]; simp
theorem mdb_c {p c mode : Int} (hc : c ≤ 0) : mdb p c mode = false := by unfold mdb mdok; rw [decide_eq_false (by omega : ¬ 0 < c)]; simp
theorem mdn_m {p c mode : Int} (hm : goodm mode = false) : mdn p c mode = 0 := by unfold mdn mdok; rw [hm]; simp
theorem mdb_m {p c mode : Int} (hm : goodm mode = false) : mdb p c mode = false := by unfold mdb mdok; rw [hm]; simp

/-- Whether rounding leads away from 0: of a size. -/
def outB (q r c : Int) (below : Bool) (mode : Int) : Bool :=
  if r = 0 then false else if mode = 0 then below else if mode = 1 then !below else if ¬ 2 * r = c then decide (c < 2 * r) else if mode = 2 then !below else decide (q % 2 = 1)
def sgn (below : Bool) (n : Int) : Int := if below = true then -n else n
theorem neg_div_zero {m c : Int} (hc : 0 < c) (h : m % c = 0) : (-m) / c = -(m / c) ∧ (-m) % c = 0 := by
  have e := Int.mul_ediv_add_emod m c
  have hm : -m = 0 + c * (-(m / c)) := by rw [Int.mul_neg]; omega
  refine ⟨?_, ?_⟩
  · rw [hm, Int.add_mul_ediv_left _ _ (by omega)]; simp
  · rw [hm, Int.add_mul_emod_self_left]; simp
theorem neg_div_pos {m c : Int} (hc : 0 < c) (h : m % c ≠ 0) : (-m) / c = -(m / c) - 1 ∧ (-m) % c = c - m % c := by
  have e := Int.mul_ediv_add_emod m c
  have p1 := Int.emod_nonneg m (show c ≠ 0 by omega)
  have p2 := Int.emod_lt_of_pos m hc
  have hm : -m = (c - m % c) + c * (-(m / c) - 1) := by rw [Int.mul_sub, Int.mul_neg]; omega
  refine ⟨?_, ?_⟩
  · rw [hm, Int.add_mul_ediv_left _ _ (by omega), Int.ediv_eq_zero_of_lt (by omega) (by omega)]; omega
  · rw [hm, Int.add_mul_emod_self_left, Int.emod_eq_of_lt (by omega) (by omega)]
theorem out_rnd {m c mode : Int} (b : Bool) (hc : 0 < c) (hm : goodm mode = true) :
    sgn b (m / c + (if outB (m / c) (m % c) c b mode = true then 1 else 0)) = rnd (sgn b m) c mode := by
  have hg := (goodm_iff mode).1 hm
  have p1 := Int.emod_nonneg m (show c ≠ 0 by omega)
  have p2 := Int.emod_lt_of_pos m hc
  have hmode : mode = 0 ∨ mode = 1 ∨ mode = 2 ∨ mode = 3 := by omega
  cases b
  · show m / c + _ = rnd m c mode
    unfold rnd rup outB
    generalize m / c = q at *
    generalize m % c = r at *
    rcases hmode with rfl | rfl | rfl | rfl <;> simp <;> (repeat' split) <;> omega
  · show -(m / c + _) = rnd (-m) c mode
    by_cases h0 : m % c = 0
    · have e := neg_div_zero hc h0
      unfold rnd
      rw [e.1, e.2, h0]
      have e1 : rup (-(m / c)) 0 c mode = false := by
        unfold rup
        rcases hmode with rfl | rfl | rfl | rfl <;> simp <;> omega
      rw [e1]
      unfold outB
      simp
    · have e := neg_div_pos hc h0
      unfold rnd
      rw [e.1, e.2]
      unfold rup outB
      generalize m / c = q at *
      generalize m % c = r at *
      rcases hmode with rfl | rfl | rfl | rfl <;> simp [h0] <;> (repeat' split) <;> omega
theorem rnd_ge (p c mode : Int) : p / c ≤ rnd p c mode ∧ rnd p c mode ≤ p / c + 1 := by unfold rnd; split <;> omega
theorem rnd_sgn_big {m c mode : Int} (b : Bool) (hc : 0 < c) (hm : goodm mode = true) (h : 18446744073709551616 ≤ m / c + (if outB (m / c) (m % c) c b mode = true then 1 else 0)) : ¬ I64 (rnd (sgn b m) c mode) := by
  rw [← out_rnd b hc hm]
  intro hi
  unfold I64 at hi
  cases b <;> simp only [sgn, if_true, if_false, Bool.false_eq_true] at hi <;> omega

theorem big_quot {m : Nat} {c : Int} (hc : 0 < c) (h : c ≤ (hiN m : Int)) : 18446744073709551616 ≤ (m : Int) / c := by
  have e := hi_lo m
  exact Int.le_ediv_of_mul_le hc (by omega)
theorem small_quot {m : Nat} {c : Int} (hc : 0 < c) (h : ¬ c ≤ (hiN m : Int)) : 0 ≤ (m : Int) / c ∧ (m : Int) / c < 18446744073709551616 := by
  have e := hi_lo m
  have l := loN_lt m
  exact ⟨Int.ediv_nonneg (by omega) (by omega), Int.ediv_lt_of_lt_mul hc (by omega)⟩
theorem hi_lo_int (m : Nat) : (hiN m : Int) * 18446744073709551616 + (loN m : Int) = (m : Int) := by have := hi_lo m; omega
theorem rup1 (q r c : Int) : rup q r c 1 = decide (0 < r) := by unfold rup; simp
theorem rup2 (q r c : Int) : rup q r c 2 = decide (c ≤ 2 * r) := by unfold rup; simp
theorem rup3 (q r c : Int) : rup q r c 3 = (decide (c < 2 * r) || (decide (2 * r = c) && decide (q % 2 ≠ 0))) := by unfold rup; simp
theorem edge_far {p c d mode : Int} (hc : 0 < c) (hd : c ≤ d) (hp : p = -9223372036854775808 * c - d) : ¬ I64 (rnd p c mode) := by
  have h1 : p / c < -9223372036854775808 := Int.ediv_lt_of_lt_mul hc (by omega)
  have h2 : p / c ≤ -9223372036854775808 - 1 := by omega
  by_cases h3 : d = c
  · -- just one below: nothing is left
    have e : p = 0 + c * (-9223372036854775809) := by omega
    have q : p / c = -9223372036854775809 := by rw [e, Int.add_mul_ediv_left _ _ (by omega)]; simp
    have r : p % c = 0 := by rw [e, Int.add_mul_emod_self_left]; simp
    unfold rnd
    rw [q, r]
    have : rup (-9223372036854775809) 0 c mode = false := by unfold rup; (repeat' split) <;> simp <;> omega
    rw [this]
    unfold I64; simp
  · have h4 : p / c < -9223372036854775809 := Int.ediv_lt_of_lt_mul hc (by omega)
    have := rnd_ge p c mode
    unfold I64; omega
theorem edge_near {p c d mode : Int} (hd0 : 0 < d) (hd : d < c) (hp : p = -9223372036854775808 * c - d) :
    rnd p c mode = -9223372036854775809 + (if rup (-9223372036854775809) (c - d) c mode = true then 1 else 0) := by
  have e : p = (c - d) + c * (-9223372036854775809) := by omega
  have q : p / c = -9223372036854775809 := by rw [e, Int.add_mul_ediv_left _ _ (by omega), Int.ediv_eq_zero_of_lt (by omega) (by omega)]; simp
  have r : p % c = c - d := by rw [e, Int.add_mul_emod_self_left, Int.emod_eq_of_lt (by omega) (by omega)]
  unfold rnd
  rw [q, r]
theorem edge_yes {p c d mode : Int} (hd0 : 0 < d) (hd : d < c) (hp : p = -9223372036854775808 * c - d) (h : mode = 1 ∨ ((mode = 2 ∨ mode = 3) ∧ d ≤ c - d)) :
    cut64 (rnd p c mode) = -9223372036854775808 ∧ ok64 (rnd p c mode) = true := by
  have r : rup (-9223372036854775809) (c - d) c mode = true := by
    clear hp
    rcases h with rfl | ⟨rfl | rfl, h⟩
    · rw [rup1]; exact decide_eq_true (by omega)
    · rw [rup2]; exact decide_eq_true (by omega)
    · rw [rup3, show decide ((-9223372036854775809 : Int) % 2 ≠ 0) = true from by decide]; simp; omega
  have e := edge_near (mode := mode) hd0 hd hp
  rw [r] at e
  rw [if_pos rfl] at e
  have e2 : rnd p c mode = -9223372036854775808 := by omega
  rw [e2]
  exact ⟨cut64_t (by unfold I64; omega), ok64_t (by unfold I64; omega)⟩
theorem edge_no {p c d mode : Int} (hd0 : 0 < d) (hd : d < c) (hp : p = -9223372036854775808 * c - d) (h : mode = 0 ∨ ((mode = 2 ∨ mode = 3) ∧ ¬ d ≤ c - d)) :
    cut64 (rnd p c mode) = 0 ∧ ok64 (rnd p c mode) = false := by
  have e := edge_near (mode := mode) hd0 hd hp
  have r : rup (-9223372036854775809) (c - d) c mode = false := by
    unfold rup
    rcases h with rfl | ⟨rfl | rfl, h⟩ <;> simp <;> omega
  rw [r] at e
  have e2 : ¬ I64 (rnd p c mode) := by rw [e]; unfold I64; simp
  exact ⟨cut64_f e2, ok64_f e2⟩
/-! the greatest number that, times c, isn't above p -/
def fok (p c : Int) : Bool := decide (-9223372036854775808 * c ≤ p)
def flo (p c : Int) : Int := if fok p c = true then (if p / c ≤ 9223372036854775807 then p / c else 9223372036854775807) else 0
theorem flo_no {p c : Int} (h : ¬ -9223372036854775808 * c ≤ p) : flo p c = 0 ∧ fok p c = false := by
  have : fok p c = false := by unfold fok; simp; omega
  exact ⟨by unfold flo; rw [this]; rfl, this⟩
theorem flo_end {p c l : Int} (hc : 0 < c) (h : -9223372036854775808 * c ≤ p) (h1 : l ≤ 9223372036854775807) (h2 : l * c ≤ p) (h3 : l + 1 = 9223372036854775808 ∨ p < (l + 1) * c) : flo p c = l ∧ fok p c = true := by
  have e : fok p c = true := by unfold fok; simp; omega
  refine ⟨?_, e⟩
  unfold flo
  rw [e]
  have a1 : l ≤ p / c := Int.le_ediv_of_mul_le hc h2
  rcases h3 with h3 | h3
  · simp; omega
  · have a2 : p / c < l + 1 := Int.ediv_lt_of_lt_mul hc h3
    simp; omega
theorem i64_flo (p c : Int) (hc : 0 < c) : I64 (flo p c) := by
  unfold flo
  by_cases h : fok p c = true
  · rw [if_pos h]
    have h1 : -9223372036854775808 * c ≤ p := by unfold fok at h; simpa using h
    have : -9223372036854775808 ≤ p / c := Int.le_ediv_of_mul_le hc h1
    unfold I64; split <;> omega
  · rw [if_neg h]; exact i64_0
/-! what is told of p within the search's reach -/
theorem rnd_same {p c mode : Int} (h : rup (p / c) (p % c) c mode = false) (hi : I64 (p / c)) : cut64 (rnd p c mode) = p / c ∧ ok64 (rnd p c mode) = true := by
  have e : rnd p c mode = p / c := by unfold rnd; rw [h]; simp
  rw [e]; exact ⟨cut64_t hi, ok64_t hi⟩
theorem rnd_more {p c mode : Int} (h : rup (p / c) (p % c) c mode = true) (hi : I64 (p / c)) (hn : p / c ≠ 9223372036854775807) : cut64 (rnd p c mode) = p / c + 1 ∧ ok64 (rnd p c mode) = true := by
  have e : rnd p c mode = p / c + 1 := by unfold rnd; rw [h]; simp
  have hi2 : I64 (p / c + 1) := by unfold I64 at *; omega
  rw [e]; exact ⟨cut64_t hi2, ok64_t hi2⟩
theorem rnd_last {p c mode : Int} (h : rup (p / c) (p % c) c mode = true) (hn : p / c = 9223372036854775807) : cut64 (rnd p c mode) = 0 ∧ ok64 (rnd p c mode) = false := by
  have e : rnd p c mode = p / c + 1 := by unfold rnd; rw [h]; simp
  have hi2 : ¬ I64 (p / c + 1) := by unfold I64; omega
  rw [e]; exact ⟨cut64_f hi2, ok64_f hi2⟩
theorem rnd_past {p c mode : Int} (hn : 9223372036854775807 < p / c) : cut64 (rnd p c mode) = 0 ∧ ok64 (rnd p c mode) = false := by
  have e := rnd_ge p c mode
  have hi2 : ¬ I64 (rnd p c mode) := by unfold I64; omega
  exact ⟨cut64_f hi2, ok64_f hi2⟩
/-- What the search finds, and what it leaves: a case each. -/
theorem flo_cases (p c : Int) (hc : 0 < c) :
    (fok p c = false ∧ flo p c = 0 ∧ p < -9223372036854775808 * c) ∨
    (fok p c = true ∧ flo p c = 9223372036854775807 ∧ 9223372036854775807 < p / c ∧ c ≤ p - 9223372036854775807 * c) ∨
    (fok p c = true ∧ flo p c = p / c ∧ I64 (p / c) ∧ p - p / c * c = p % c) := by
  by_cases h : -9223372036854775808 * c ≤ p
  · have e : fok p c = true := by unfold fok; simp; omega
    have a1 : -9223372036854775808 ≤ p / c := Int.le_ediv_of_mul_le hc h
    by_cases h2 : p / c ≤ 9223372036854775807
    · refine Or.inr (Or.inr ⟨e, by unfold flo; rw [e]; simp [h2], ⟨a1, h2⟩, ?_⟩)
      have := Int.mul_ediv_add_emod p c
      rw [Int.mul_comm] at this
      omega
    · refine Or.inr (Or.inl ⟨e, by unfold flo; rw [e]; simp [h2], by omega, ?_⟩)
      have a2 : 9223372036854775808 ≤ p / c := by omega
      have a3 : 9223372036854775808 * c ≤ p := (Int.le_ediv_iff_mul_le hc).1 a2
      omega
  · have hn := flo_no h
    exact Or.inl ⟨hn.2, hn.1, by omega⟩
/-- Whether what is left is rounded up, as the document's answer asks it. -/
theorem rup_asked {q r c mode : Int} (hm : goodm mode = true) :
    (rup q r c mode = false ∧ (mode = 0 ∨ (mode = 1 ∧ ¬ 0 < r) ∨ (mode = 2 ∧ ¬ c - r ≤ r) ∨ (mode = 3 ∧ r < c - r) ∨ (mode = 3 ∧ r = c - r ∧ q % 2 = 0))) ∨
    (rup q r c mode = true ∧ ((mode = 1 ∧ 0 < r) ∨ (mode = 2 ∧ c - r ≤ r) ∨ (mode = 3 ∧ c - r < r) ∨ (mode = 3 ∧ r = c - r ∧ q % 2 ≠ 0))) := by
  have hmode : mode = 0 ∨ mode = 1 ∨ mode = 2 ∨ mode = 3 := by have := (goodm_iff mode).1 hm; omega
  have he : q % 2 = 0 ∨ q % 2 ≠ 0 := by omega
  rcases hmode with rfl | rfl | rfl | rfl
  · exact Or.inl ⟨by unfold rup; simp, Or.inl rfl⟩
  · rw [rup1]
    by_cases h : 0 < r
    · exact Or.inr ⟨by simpa using h, Or.inl ⟨rfl, h⟩⟩
    · exact Or.inl ⟨by simpa using h, Or.inr (Or.inl ⟨rfl, h⟩)⟩
  · rw [rup2]
    by_cases h : c - r ≤ r
    · exact Or.inr ⟨by simp; omega, Or.inr (Or.inl ⟨rfl, h⟩)⟩
    · exact Or.inl ⟨by simp; omega, Or.inr (Or.inr (Or.inl ⟨rfl, h⟩))⟩
  · rw [rup3]
    by_cases h : r < c - r
    · exact Or.inl ⟨by rw [decide_eq_false (by omega), decide_eq_false (by omega)]; rfl, by omega⟩
    · by_cases h2 : c - r < r
      · exact Or.inr ⟨by rw [decide_eq_true (by omega)]; rfl, by omega⟩
      · rcases he with he | he
        · exact Or.inl ⟨by rw [decide_eq_false (by omega), decide_eq_true (by omega), decide_eq_false (by omega)]; rfl, by omega⟩
        · exact Or.inr ⟨by rw [decide_eq_false (by omega), decide_eq_true (by omega), decide_eq_true (by omega)]; rfl, by omega⟩
theorem tmod2 (n : Int) : (n.tmod 2 != 0) = decide (n % 2 ≠ 0) := by
  have h1 := Int.tmod_add_mul_tdiv n 2
  have h2 : (n.tmod 2).natAbs < 2 := by rw [Int.natAbs_tmod]; exact Nat.mod_lt _ (by omega)
  rw [Bool.eq_iff_iff]
  simp only [bne_iff_ne, ne_eq, decide_eq_true_eq]
  omega
end Go.Proofs.Ytpmibknabckboaa.P

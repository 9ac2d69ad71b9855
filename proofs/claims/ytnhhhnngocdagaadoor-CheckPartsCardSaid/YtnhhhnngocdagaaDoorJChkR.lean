/- Rounding, as plain arithmetic: no program is named here. -/
import Derived.Test.YtnhhhnngocdagaaDoorJPureD
import Derived.Lib.Itoa
import Derived.Lib.ItoaNum
import Derived.Lib.Repeat
namespace Go.Proofs.YtnhhhnngocdagaaDoor.P
open Go.RowKit
/-- Whether what is left is rounded up: q the number below, r the rest of c parts. -/
def rup (q r c mode : Int) : Bool :=
  if mode = 0 then false else if mode = 1 then decide (0 < r) else if mode = 2 then decide (c ≤ 2 * r) else decide (c < 2 * r) || (decide (2 * r = c) && decide (q % 2 ≠ 0))
/-- p by c, rounded. -/
def rnd (p c mode : Int) : Int := p / c + (if rup (p / c) (p % c) c mode = true then 1 else 0)
def goodm (mode : Int) : Bool := decide (0 ≤ mode) && decide (mode ≤ 3)
theorem goodm_iff (mode : Int) : goodm mode = true ↔ 0 ≤ mode ∧ mode ≤ 3 := by unfold goodm; simp
def mdok (c mode : Int) : Bool := decide (0 < c) && goodm mode
/-- What MulDiv answers. -/
def mdn (p c mode : Int) : Int := if mdok c mode = true then cut64 (rnd p c mode) else 0
def mdb (p c mode : Int) : Bool := mdok c mode && ok64 (rnd p c mode)
theorem mdn_good {p c mode : Int} (hc : 0 < c) (hm : goodm mode = true) : mdn p c mode = cut64 (rnd p c mode) := by unfold mdn mdok; simp [hc, hm]
theorem mdb_good {p c mode : Int} (hc : 0 < c) (hm : goodm mode = true) : mdb p c mode = ok64 (rnd p c mode) := by unfold mdb mdok; simp [hc, hm]
theorem mdn_c {p c mode : Int} (hc : c ≤ 0) : mdn p c mode = 0 := by unfold mdn mdok; rw [decide_eq_false (by omega : ¬ 0 < c)]; simp
theorem mdb_c {p c mode : Int} (hc : c ≤ 0) : mdb p c mode = false := by unfold mdb mdok; rw [decide_eq_false (by omega : ¬ 0 < c)]; simp
theorem mdn_m {p c mode : Int} (hm : goodm mode = false) : mdn p c mode = 0 := by unfold mdn mdok; rw [hm]; simp
theorem mdb_m {p c mode : Int} (hm : goodm mode = false) : mdb p c mode = false := by unfold mdb mdok; rw [hm]; simp
/-- Whether rounding leads away from 0: of a size. -/
def outB (q r c : Int) (below : Bool) (mode : Int) : Bool :=
  if r = 0 then false else if mode = 0 then below else if mode = 1 then !below else if ¬ 2 * r = c then decide (c < 2 * r) else if mode = 2 then !below else decide (q % 2 = 1)
def sgnB (below : Bool) (n : Int) : Int := if below = true then -n else n
theorem neg_div_zero {m c : Int} (hc : 0 < c) (h : m % c = 0) : (-m) / c = -(m / c) ∧ (-m) % c = 0 := by
  have e := Int.mul_ediv_add_emod m c
  have hm : -m = 0 + c * (-(m / c)) := by rw [Int.mul_neg]; omega
  refine ⟨?_, ?_⟩
  · rw [hm, Int.add_mul_ediv_left _ _ (by omega)]; simp
  · rw [hm, Int.add_mul_emod_self_left]; simp
theorem neg_div_pos {m c : Int} (hc : 0 < c) (h : m % c ≠ 0) : (-m) / c = -(m / c) - 1 ∧ (-m) % c = c - m % c := by
  have e := Int.mul_ediv_add_emod m c
  have p1 := Int.emod_nonneg m (show c ≠ 0 by omega)
  have p2 := Int.emod_lt_of_pos m hc
  have hm : -m = (c - m % c) + c * (-(m / c) - 1) := by rw [Int.mul_sub, Int.mul_neg]; omega
  refine ⟨?_, ?_⟩
  · rw [hm, Int.add_mul_ediv_left _ _ (by omega), Int.ediv_eq_zero_of_lt (by omega) (by omega)]; omega
  · rw [hm, Int.add_mul_emod_self_left, Int.emod_eq_of_lt (by omega) (by omega)]
theorem out_rnd {m c mode : Int} (b : Bool) (hc : 0 < c) (hm : goodm mode = true) :
    sgnB b (m / c + (if outB (m / c) (m % c) c b mode = true then 1 else 0)) = rnd (sgnB b m) c mode := by
  have hg := (goodm_iff mode).1 hm
  have p1 := Int.emod_nonneg m (show c ≠ 0 by omega)
  have p2 := Int.emod_lt_of_pos m hc
  have hmode : mode = 0 ∨ mode = 1 ∨ mode = 2 ∨ mode = 3 := by omega
  cases b
  · show m / c + _ = rnd m c mode
    unfold rnd rup outB
    generalize m / c = q at *
    generalize m % c = r at *
    rcases hmode with rfl | rfl | rfl | rfl <;> simp <;> (repeat' split) <;> omega
  · show -(m / c + _) = rnd (-m) c mode
    by_cases h0 : m % c = 0
    · have e := neg_div_zero hc h0
      unfold rnd
      rw [e.1, e.2, h0]
      have e1 : rup (-(m / c)) 0 c mode = false := by
        unfold rup
        rcases hmode with rfl | rfl | rfl | rfl <;> simp <;> omega
      rw [e1]
      unfold outB
      simp
    · have e := neg_div_pos hc h0
      unfold rnd
      rw [e.1, e.2]
      unfold rup outB
      generalize m / c = q at *
      generalize m % c = r at *
      rcases hmode with rfl | rfl | rfl | rfl <;> simp [h0] <;> (repeat' split) <;> omega
theorem rnd_ge (p c mode : Int) : p / c ≤ rnd p c mode ∧ rnd p c mode ≤ p / c + 1 := by unfold rnd; split <;> omega
theorem rnd_sgn_big {m c mode : Int} (b : Bool) (hc : 0 < c) (hm : goodm mode = true) (h : 18446744073709551616 ≤ m / c + (if outB (m / c) (m % c) c b mode = true then 1 else 0)) : ¬ I64 (rnd (sgnB b m) c mode) := by
  rw [← out_rnd b hc hm]
  intro hi
  unfold I64 at hi
  cases b <;> simp only [sgnB, if_true, if_false, Bool.false_eq_true] at hi <;> omega
theorem big_quot {m : Nat} {c : Int} (hc : 0 < c) (h : c ≤ (hiN m : Int)) : 18446744073709551616 ≤ (m : Int) / c := by
  have e := hi_lo m
  exact Int.le_ediv_of_mul_le hc (by omega)
theorem small_quot {m : Nat} {c : Int} (hc : 0 < c) (h : ¬ c ≤ (hiN m : Int)) : 0 ≤ (m : Int) / c ∧ (m : Int) / c < 18446744073709551616 := by
  have e := hi_lo m
  have l := loN_lt m
  exact ⟨Int.ediv_nonneg (by omega) (by omega), Int.ediv_lt_of_lt_mul hc (by omega)⟩
theorem hi_lo_int (m : Nat) : (hiN m : Int) * 18446744073709551616 + (loN m : Int) = (m : Int) := by have := hi_lo m; omega
theorem rup1 (q r c : Int) : rup q r c 1 = decide (0 < r) := by unfold rup; simp
theorem rup2 (q r c : Int) : rup q r c 2 = decide (c ≤ 2 * r) := by unfold rup; simp
theorem rup3 (q r c : Int) : rup q r c 3 = (decide (c < 2 * r) || (decide (2 * r = c) && decide (q % 2 ≠ 0))) := by unfold rup; simp
theorem edge_far {p c d mode : Int} (hc : 0 < c) (hd : c ≤ d) (hp : p = -9223372036854775808 * c - d) : ¬ I64 (rnd p c mode) := by
  have h1 : p / c < -9223372036854775808 := Int.ediv_lt_of_lt_mul hc (by omega)
  have h2 : p / c ≤ -9223372036854775808 - 1 := by omega
  by_cases h3 : d = c
  · -- just one below: nothing is left
    have e : p = 0 + c * (-9223372036854775809) := by omega
    have q : p / c = -9223372036854775809 := by rw [e, Int.add_mul_ediv_left _ _ (by omega)]; simp
    have r : p % c = 0 := by rw [e, Int.add_mul_emod_self_left]; simp
    unfold rnd
    rw [q, r]
    have : rup (-9223372036854775809) 0 c mode = false := by unfold rup; (repeat' split) <;> simp <;> omega
    rw [this]
    unfold I64; simp
  · have h4 : p / c < -9223372036854775809 := Int.ediv_lt_of_lt_mul hc (by omega)
    have := rnd_ge p c mode
    unfold I64; omega
theorem edge_near {p c d mode : Int} (hd0 : 0 < d) (hd : d < c) (hp : p = -9223372036854775808 * c - d) :
    rnd p c mode = -9223372036854775809 + (if rup (-9223372036854775809) (c - d) c mode = true then 1 else 0) := by
  have e : p = (c - d) + c * (-9223372036854775809) := by omega
  have q : p / c = -9223372036854775809 := by rw [e, Int.add_mul_ediv_left _ _ (by omega), Int.ediv_eq_zero_of_lt (by omega) (by omega)]; simp
  have r : p % c = c - d := by rw [e, Int.add_mul_emod_self_left, Int.emod_eq_of_lt (by omega) (by omega)]
  unfold rnd
  rw [q, r]
theorem edge_yes {p c d mode : Int} (hd0 : 0 < d) (hd : d < c) (hp : p = -9223372036854775808 * c - d) (h : mode = 1 ∨ ((mode = 2 ∨ mode = 3) ∧ d ≤ c - d)) :
    cut64 (rnd p c mode) = -9223372036854775808 ∧ ok64 (rnd p c mode) = true := by
  have r : rup (-9223372036854775809) (c - d) c mode = true := by
    clear hp
    rcases h with rfl | ⟨rfl | rfl, h⟩
    · rw [rup1]; exact decide_eq_true (by omega)
    · rw [rup2]; exact decide_eq_true (by omega)
    · rw [rup3, show decide ((-9223372036854775809 : Int) % 2 ≠ 0) = true from by decide]; simp; omega
  have e := edge_near (mode := mode) hd0 hd hp
  rw [r] at e
  rw [if_pos rfl] at e
  have e2 : rnd p c mode = -9223372036854775808 := by omega
  rw [e2]
  exact ⟨cut64_t (by unfold I64; omega), ok64_t (by unfold I64; omega)⟩
theorem edge_no {p c d mode : Int} (hd0 : 0 < d) (hd : d < c) (hp : p = -9223372036854775808 * c - d) (h : mode = 0 ∨ ((mode = 2 ∨ mode = 3) ∧ ¬ d ≤ c - d)) :
    cut64 (rnd p c mode) = 0 ∧ ok64 (rnd p c mode) = false := by
  have e := edge_near (mode := mode) hd0 hd hp
  have r : rup (-9223372036854775809) (c - d) c mode = false := by
    unfold rup
    rcases h with rfl | ⟨rfl | rfl, h⟩ <;> simp <;> omega
  rw [r] at e
  have e2 : ¬ I64 (rnd p c mode) := by rw [e]; unfold I64; simp
  exact ⟨cut64_f e2, ok64_f e2⟩
def fok (p c : Int) : Bool := decide (-9223372036854775808 * c ≤ p)
def flo (p c : Int) : Int := if fok p c = true then (if p / c ≤ 9223372036854775807 then p / c else 9223372036854775807) else 0
theorem flo_no {p c : Int} (h : ¬ -9223372036854775808 * c ≤ p) : flo p c = 0 ∧ fok p c = false := by
  have : fok p c = false := by unfold fok; simp; omega
  exact ⟨by unfold flo; rw [this]; rfl, this⟩
theorem flo_end {p c l : Int} (hc : 0 < c) (h : -9223372036854775808 * c ≤ p) (h1 : l ≤ 9223372036854775807) (h2 : l * c ≤ p) (h3 : l + 1 = 9223372036854775808 ∨ p < (l + 1) * c) : flo p c = l ∧ fok p c = true := by
  have e : fok p c = true := by unfold fok; simp; omega
  refine ⟨?_, e⟩
  unfold flo
  rw [e]
  have a1 : l ≤ p / c := Int.le_ediv_of_mul_le hc h2
  rcases h3 with h3 | h3
  · simp; omega
  · have a2 : p / c < l + 1 := Int.ediv_lt_of_lt_mul hc h3
    simp; omega
theorem i64_flo (p c : Int) (hc : 0 < c) : I64 (flo p c) := by
  unfold flo
  by_cases h : fok p c = true
  · rw [if_pos h]
    have h1 : -9223372036854775808 * c ≤ p := by unfold fok at h; simpa using h
    have : -9223372036854775808 ≤ p / c := Int.le_ediv_of_mul_le hc h1
    unfold I64; split <;> omega
  · rw [if_neg h]; exact i64_0
theorem rnd_same {p c mode : Int} (h : rup (p / c) (p % c) c mode = false) (hi : I64 (p / c)) : cut64 (rnd p c mode) = p / c ∧ ok64 (rnd p c mode) = true := by
  have e : rnd p c mode = p / c := by unfold rnd; rw [h]; simp
  rw [e]; exact ⟨cut64_t hi, ok64_t hi⟩
theorem rnd_more {p c mode : Int} (h : rup (p / c) (p % c) c mode = true) (hi : I64 (p / c)) (hn : p / c ≠ 9223372036854775807) : cut64 (rnd p c mode) = p / c + 1 ∧ ok64 (rnd p c mode) = true := by
  have e : rnd p c mode = p / c + 1 := by unfold rnd; rw [h]; simp
  have hi2 : I64 (p / c + 1) := by unfold I64 at *; omega
  rw [e]; exact ⟨cut64_t hi2, ok64_t hi2⟩
theorem rnd_last {p c mode : Int} (h : rup (p / c) (p % c) c mode = true) (hn : p / c = 9223372036854775807) : cut64 (rnd p c mode) = 0 ∧ ok64 (rnd p c mode) = false := by
  have e : rnd p c mode = p / c + 1 := by unfold rnd; rw [h]; simp
  have hi2 : ¬ I64 (p / c + 1) := by unfold I64; omega
  rw [e]; exact ⟨cut64_f hi2, ok64_f hi2⟩
theorem rnd_past {p c mode : Int} (hn : 9223372036854775807 < p / c) : cut64 (rnd p c mode) = 0 ∧ ok64 (rnd p c mode) = false := by
  have e := rnd_ge p c mode
  have hi2 : ¬ I64 (rnd p c mode) := by unfold I64; omega
  exact ⟨cut64_f hi2, ok64_f hi2⟩
/-- What the search finds, and what it leaves: a case each. -/
theorem flo_cases (p c : Int) (hc : 0 < c) :
    (fok p c = false ∧ flo p c = 0 ∧ p < -9223372036854775808 * c) ∨
    (fok p c = true ∧ flo p c = 9223372036854775807 ∧ 9223372036854775807 < p / c ∧ c ≤ p - 9223372036854775807 * c) ∨
    (fok p c = true ∧ flo p c = p / c ∧ I64 (p / c) ∧ p - p / c * c = p % c) := by
  by_cases h : -9223372036854775808 * c ≤ p
  · have e : fok p c = true := by unfold fok; simp; omega
    have a1 : -9223372036854775808 ≤ p / c := Int.le_ediv_of_mul_le hc h
    by_cases h2 : p / c ≤ 9223372036854775807
    · refine Or.inr (Or.inr ⟨e, by unfold flo; rw [e]; simp [h2], ⟨a1, h2⟩, ?_⟩)
      have := Int.mul_ediv_add_emod p c
      rw [Int.mul_comm] at this
      omega
    · refine Or.inr (Or.inl ⟨e, by unfold flo; rw [e]; simp [h2], by omega, ?_⟩)
      have a2 : 9223372036854775808 ≤ p / c := by omega
      have a3 : 9223372036854775808 * c ≤ p := (Int.le_ediv_iff_mul_le hc).1 a2
      omega
  · have hn := flo_no h
    exact Or.inl ⟨hn.2, hn.1, by omega⟩
/-- Whether what is left is rounded up, as the document's answer asks it. -/
theorem rup_asked {q r c mode : Int} (hm : goodm mode = true) :
    (rup q r c mode = false ∧ (mode = 0 ∨ (mode = 1 ∧ ¬ 0 < r) ∨ (mode = 2 ∧ ¬ c - r ≤ r) ∨ (mode = 3 ∧ r < c - r) ∨ (mode = 3 ∧ r = c - r ∧ q % 2 = 0))) ∨
    (rup q r c mode = true ∧ ((mode = 1 ∧ 0 < r) ∨ (mode = 2 ∧ c - r ≤ r) ∨ (mode = 3 ∧ c - r < r) ∨ (mode = 3 ∧ r = c - r ∧ q % 2 ≠ 0))) := by
  have hmode : mode = 0 ∨ mode = 1 ∨ mode = 2 ∨ mode = 3 := by have := (goodm_iff mode).1 hm; omega
  have he : q % 2 = 0 ∨ q % 2 ≠ 0 := by omega
  rcases hmode with rfl | rfl | rfl | rfl
  · exact Or.inl ⟨by unfold rup; simp, Or.inl rfl⟩
  · rw [rup1]
    by_cases h : 0 < r
    · exact Or.inr ⟨by simpa using h, Or.inl ⟨rfl, h⟩⟩
    · exact Or.inl ⟨by simpa using h, Or.inr (Or.inl ⟨rfl, h⟩)⟩
  · rw [rup2]
    by_cases h : c - r ≤ r
    · exact Or.inr ⟨by simp; omega, Or.inr (Or.inl ⟨rfl, h⟩)⟩
    · exact Or.inl ⟨by simp; omega, Or.inr (Or.inr (Or.inl ⟨rfl, h⟩))⟩
  · rw [rup3]
    by_cases h : r < c - r
    · exact Or.inl ⟨by rw [decide_eq_false (by omega), decide_eq_false (by omega)]; rfl, by omega⟩
    · by_cases h2 : c - r < r
      · exact Or.inr ⟨by rw [decide_eq_true (by omega)]; rfl, by omega⟩
      · rcases he with he | he
        · exact Or.inl ⟨by rw [decide_eq_false (by omega), decide_eq_true (by omega), decide_eq_false (by omega)]; rfl, by omega⟩
        · exact Or.inr ⟨by rw [decide_eq_false (by omega), decide_eq_true (by omega), decide_eq_true (by omega)]; rfl, by omega⟩
theorem tmod2 (n : Int) : (n.tmod 2 != 0) = decide (n % 2 ≠ 0) := by
  have h1 := Int.tmod_add_mul_tdiv n 2
  have h2 : (n.tmod 2).natAbs < 2 := by rw [Int.natAbs_tmod]; exact Nat.mod_lt _ (by omega)
  rw [Bool.eq_iff_iff]
  simp only [bne_iff_ne, ne_eq, decide_eq_true_eq]
  omega
end Go.Proofs.YtnhhhnngocdagaaDoor.P
/- What rounding keeps: plain arithmetic; no program is named here. -/
namespace Go.Proofs.YtnhhhnngocdagaaDoor.P
open Go.RowKit
theorem rup_pos {q r c mode : Int} (hc : 0 < c) (hm : goodm mode = true) (h : rup q r c mode = true) : 0 < r := by
  rcases rup_asked (q := q) (r := r) (c := c) hm with ⟨h1, _⟩ | ⟨_, h2⟩
  · rw [h1] at h; cases h
  · omega
theorem rnd_i64 {a c mode : Int} (ha : I64 a) (hc : 0 < c) (hm : goodm mode = true) : I64 (rnd a c mode) := by
  have e := Int.mul_ediv_add_emod a c
  rw [Int.mul_comm] at e
  have r0 := Int.emod_nonneg a (show c ≠ 0 by omega)
  have r1 := Int.emod_lt_of_pos a hc
  have l1 : -9223372036854775808 ≤ a / c := Int.le_ediv_of_mul_le hc (by unfold I64 at ha; omega)
  have l2 : a / c < 9223372036854775808 := Int.ediv_lt_of_lt_mul hc (by unfold I64 at ha; omega)
  unfold rnd
  split
  · rename_i h
    have hp := rup_pos hc hm h
    have l3 : a / c < 4611686018427387904 := Int.ediv_lt_of_lt_mul hc (by unfold I64 at ha; omega)
    unfold I64; omega
  · unfold I64; omega
theorem mdb_i64 {a c mode : Int} (ha : I64 a) (hc : 0 < c) (hm : goodm mode = true) : mdb a c mode = true ∧ mdn a c mode = rnd a c mode := by
  have h := rnd_i64 (mode := mode) ha hc hm
  exact ⟨by rw [mdb_good hc hm]; exact ok64_t h, by rw [mdn_good hc hm]; exact cut64_t h⟩
theorem rnd_mono {a b c mode : Int} (hc : 0 < c) (hm : goodm mode = true) (h : a ≤ b) : rnd a c mode ≤ rnd b c mode := by
  have h1 : a / c ≤ b / c := Int.ediv_le_ediv hc h
  by_cases h2 : a / c = b / c
  · have ea := Int.mul_ediv_add_emod a c
    have eb := Int.mul_ediv_add_emod b c
    rw [← h2] at eb
    have hr : a % c ≤ b % c := by omega
    unfold rnd
    rw [← h2]
    rcases rup_asked (q := a / c) (r := a % c) (c := c) hm with ⟨u1, u2⟩ | ⟨u1, u2⟩
    · rw [u1]; simp; split <;> omega
    · rcases rup_asked (q := a / c) (r := b % c) (c := c) hm with ⟨v1, v2⟩ | ⟨v1, v2⟩
      · exfalso; omega
      · rw [u1, v1]; omega
  · have h3 := rnd_ge a c mode
    have h4 := rnd_ge b c mode
    omega
/-- The laws' answer on order: both or none; and the lesser is not above. -/
theorem md_mono {a b c mode : Int} (ha : I64 a) (hb : I64 b) (h : a ≤ b) : mdb a c mode = mdb b c mode ∧ (mdb a c mode = true → mdn a c mode ≤ mdn b c mode) := by
  by_cases hc : 0 < c
  · by_cases hm : goodm mode = true
    · have h1 := mdb_i64 (mode := mode) ha hc hm
      have h2 := mdb_i64 (mode := mode) hb hc hm
      rw [h1.1, h2.1, h1.2, h2.2]
      exact ⟨rfl, fun _ => rnd_mono hc hm h⟩
    · have hm' : goodm mode = false := by simpa using hm
      rw [mdb_m hm', mdb_m hm']
      exact ⟨rfl, fun h => by cases h⟩
  · rw [mdb_c (by omega), mdb_c (by omega)]
    exact ⟨rfl, fun h => by cases h⟩
theorem good0 : goodm 0 = true := by decide
theorem good1 : goodm 1 = true := by decide
theorem good2 : goodm 2 = true := by decide
theorem good3 : goodm 3 = true := by decide
theorem rnd0 (p c : Int) : rnd p c 0 = p / c := by unfold rnd rup; simp
theorem rnd1 (p c : Int) : rnd p c 1 = p / c + (if 0 < p % c then 1 else 0) := by
  unfold rnd; rw [rup1]; by_cases h : 0 < p % c <;> simp [h]
/-- Up: the multiple is not below, and nothing is left of it. -/
theorem up_facts {a c : Int} (hc : 0 < c) : a ≤ rnd a c 1 * c ∧ (rnd a c 1 * c).tmod c = 0 := by
  refine ⟨?_, Int.mul_tmod_left _ _⟩
  have e := Int.mul_ediv_add_emod a c
  rw [Int.mul_comm] at e
  have r0 := Int.emod_nonneg a (show c ≠ 0 by omega)
  have r1 := Int.emod_lt_of_pos a hc
  rw [rnd1]
  split
  · rw [Int.add_mul, Int.one_mul]; omega
  · rw [Int.add_zero]; omega
/-- The four ways: all that RoundModes asks. -/
theorem modes_facts {p c : Int} (hc : 0 < c) (h0 : mdb p c 0 = true) (h1 : mdb p c 1 = true) :
    mdb p c 2 = true ∧ mdb p c 3 = true ∧
    ((mdn p c 0 * c = p ∧ mdn p c 1 = mdn p c 0 ∧ mdn p c 2 = mdn p c 0 ∧ mdn p c 3 = mdn p c 0) ∨
     (mdn p c 0 * c ≠ p ∧ mdn p c 1 = mdn p c 0 + 1 ∧ (mdn p c 2 = mdn p c 0 ∨ mdn p c 2 = mdn p c 0 + 1) ∧ (mdn p c 3 = mdn p c 0 ∨ mdn p c 3 = mdn p c 0 + 1))) := by
  rw [mdb_good hc good0, ok64_iff] at h0
  rw [mdb_good hc good1, ok64_iff] at h1
  have e := Int.mul_ediv_add_emod p c
  rw [Int.mul_comm] at e
  have r0 := Int.emod_nonneg p (show c ≠ 0 by omega)
  have i2 : rnd p c 2 = rnd p c 0 ∨ rnd p c 2 = rnd p c 1 := by
    rw [rnd0, rnd1]; unfold rnd; rw [rup2]
    by_cases h : 0 < p % c
    · rw [if_pos h]
      cases decide (c ≤ 2 * (p % c)) <;> simp
    · rw [decide_eq_false (show ¬ c ≤ 2 * (p % c) by omega)]; simp
  have i3 : rnd p c 3 = rnd p c 0 ∨ rnd p c 3 = rnd p c 1 := by
    rw [rnd0, rnd1]; unfold rnd
    by_cases h : 0 < p % c
    · rw [if_pos h]
      cases rup (p / c) (p % c) c 3 <;> simp
    · rcases rup_asked (q := p / c) (r := p % c) (c := c) good3 with ⟨u, _⟩ | ⟨u, _⟩
      · rw [u]; simp [h]
      · exact absurd (rup_pos hc good3 u) h
  have j2 : I64 (rnd p c 2) := by rcases i2 with h | h <;> rw [h] <;> assumption
  have j3 : I64 (rnd p c 3) := by rcases i3 with h | h <;> rw [h] <;> assumption
  rw [mdb_good hc good2, mdb_good hc good3, mdn_good hc good0, mdn_good hc good1, mdn_good hc good2, mdn_good hc good3, cut64_t h0, cut64_t h1, cut64_t j2, cut64_t j3]
  refine ⟨ok64_t j2, ok64_t j3, ?_⟩
  rw [rnd0, rnd1] at i2 i3 ⊢
  by_cases h : 0 < p % c
  · refine Or.inr ⟨by omega, by simp [h], ?_, ?_⟩
    · simpa [h] using i2
    · simpa [h] using i3
  · refine Or.inl ⟨by omega, by simp [h], ?_, ?_⟩
    · simpa [h] using i2
    · simpa [h] using i3
/-- What is rounded down of a number is rounded up of its opposite, with the other sign. -/
theorem turned_floor {p c : Int} (hc : 0 < c) : rnd (-p) c 1 = -rnd p c 0 := by
  rw [rnd0, rnd1]
  by_cases h : p % c = 0
  · rw [(neg_div_zero hc h).1, (neg_div_zero hc h).2]; simp
  · have r1 := Int.emod_lt_of_pos p hc
    rw [(neg_div_pos hc h).1, (neg_div_pos hc h).2, if_pos (by omega)]; omega
theorem turned_even {p c : Int} (hc : 0 < c) : rnd (-p) c 3 = -rnd p c 3 := by
  by_cases h : p % c = 0
  · unfold rnd
    rw [(neg_div_zero hc h).1, (neg_div_zero hc h).2, h]
    have z : ∀ q : Int, rup q 0 c 3 = false := fun q => by
      rcases Bool.eq_false_or_eq_true (rup q 0 c 3) with u | u
      · exact absurd (rup_pos hc good3 u) (by omega)
      · exact u
    rw [z, z]; simp
  · have r0 := Int.emod_nonneg p (show c ≠ 0 by omega)
    have r1 := Int.emod_lt_of_pos p hc
    unfold rnd
    rw [(neg_div_pos hc h).1, (neg_div_pos hc h).2]
    generalize p / c = q at *
    generalize p % c = r at *
    rcases rup_asked (q := q) (r := r) (c := c) good3 with ⟨u1, u2⟩ | ⟨u1, u2⟩ <;>
      rcases rup_asked (q := -q - 1) (r := c - r) (c := c) good3 with ⟨v1, v2⟩ | ⟨v1, v2⟩ <;> rw [u1, v1] <;> simp <;> omega
/-- Both told, by a mode and its mirror: the one is the other's opposite. -/
theorem turned_md {p c : Int} (m m' : Int) (hm : goodm m = true) (hm' : goodm m' = true) (ht : 0 < c → rnd (-p) c m' = -rnd p c m) (h1 : mdb p c m = true) (h2 : mdb (-p) c m' = true) : I64 (-mdn (-p) c m') ∧ mdn p c m = -mdn (-p) c m' := by
  have hc : 0 < c := by
    by_cases h : 0 < c
    · exact h
    · rw [mdb_c (by omega)] at h1; cases h1
  rw [mdb_good hc hm, ok64_iff] at h1
  rw [mdb_good hc hm', ok64_iff] at h2
  rw [mdn_good hc hm, mdn_good hc hm', cut64_t h1, cut64_t h2, ht hc]
  exact ⟨by rw [Int.neg_neg]; exact h1, by omega⟩
theorem mdb_true {p c mode : Int} (h : mdb p c mode = true) : 0 < c ∧ goodm mode = true ∧ I64 (rnd p c mode) ∧ mdn p c mode = rnd p c mode := by
  have hc : 0 < c := by
    by_cases h1 : 0 < c
    · exact h1
    · rw [mdb_c (by omega)] at h; cases h
  have hm : goodm mode = true := by
    rcases Bool.eq_false_or_eq_true (goodm mode) with h1 | h1
    · exact h1
    · rw [mdb_m h1] at h; cases h
  rw [mdb_good hc hm, ok64_iff] at h
  exact ⟨hc, hm, h, by rw [mdn_good hc hm]; exact cut64_t h⟩
theorem mdb_false {p c mode : Int} (h : mdb p c mode = false) : mdn p c mode = 0 := by
  unfold mdb at h
  unfold mdn
  split
  · rename_i h1
    rw [h1] at h
    unfold cut64
    rw [show ok64 (rnd p c mode) = false by simpa using h]; rfl
  · rfl
/-- All that RoundNear asks, of a number that is told. -/
theorem near_facts {p c mode n d : Int} (h : mdb p c mode = true) (hn : n = mdn p c mode) (hd : d = p - n * c) :
    0 < c ∧ (d.natAbs : Int) < c ∧
    ((mode = 0 ∧ 0 ≤ d) ∨ (mode = 1 ∧ d ≤ 0) ∨ (mode = 2 ∧ ((d.natAbs : Int) < c - d.natAbs ∨ ((d.natAbs : Int) = c - d.natAbs ∧ d < 0))) ∨
     (mode = 3 ∧ ((d.natAbs : Int) < c - d.natAbs ∨ ((d.natAbs : Int) = c - d.natAbs ∧ n % 2 = 0)))) := by
  obtain ⟨hc, hm, _, e⟩ := mdb_true h
  rw [e] at hn
  have ee := Int.mul_ediv_add_emod p c
  rw [Int.mul_comm] at ee
  have r0 := Int.emod_nonneg p (show c ≠ 0 by omega)
  have r1 := Int.emod_lt_of_pos p hc
  refine ⟨hc, ?_⟩
  rcases rup_asked (q := p / c) (r := p % c) (c := c) hm with ⟨u, v⟩ | ⟨u, v⟩
  · have e1 : n = p / c := by rw [hn]; unfold rnd; rw [u]; simp
    rw [e1] at hd ⊢
    have e2 : d = p % c := by omega
    generalize p % c = r at *
    generalize p / c = q at *
    clear hd ee hn e u h
    subst e2
    refine ⟨by omega, ?_⟩
    omega
  · have e1 : n = p / c + 1 := by rw [hn]; unfold rnd; rw [u]; simp
    rw [e1, Int.add_mul, Int.one_mul] at hd
    rw [e1]
    have e2 : d = p % c - c := by omega
    generalize p % c = r at *
    generalize p / c = q at *
    clear hd ee hn e u h
    subst e2
    refine ⟨by omega, ?_⟩
    omega
end Go.Proofs.YtnhhhnngocdagaaDoor.P
/- Days of the calendar as plain arithmetic: no program is named here. -/
namespace Go.Proofs.YtnhhhnngocdagaaDoor.P
open Go.RowKit
def leap (y : Int) : Bool := decide (y % 4 = 0 ∧ (y % 100 ≠ 0 ∨ y % 400 = 0))
/-- One where the year is a leap year. -/
def lp (y : Int) : Int := if leap y then 1 else 0
def days (y m : Int) : Int :=
  if m < 1 ∨ 12 < m then 0 else if m = 4 ∨ m = 6 ∨ m = 9 ∨ m = 11 then 30 else if m = 2 then 28 + lp y else 31
def good (y m d : Int) : Bool := decide (1 ≤ y ∧ y ≤ 9999 ∧ 1 ≤ d ∧ d ≤ days y m)
/-- How many days lie ahead of a year. -/
def yrs (y : Int) : Int := 365 * (y - 1) + (y - 1) / 4 - (y - 1) / 100 + (y - 1) / 400
/-- How many days of its year lie ahead of a month. -/
def mon (y m : Int) : Int :=
  if m ≤ 1 then 0 else if m = 2 then 31 else lp y +
    (if m = 3 then 59 else if m = 4 then 90 else if m = 5 then 120 else if m = 6 then 151 else if m = 7 then 181 else if m = 8 then 212
      else if m = 9 then 243 else if m = 10 then 273 else if m = 11 then 304 else if m = 12 then 334 else 365)
def num (y m d : Int) : Int := yrs y + mon y m + d - 1
theorem lp_is (y : Int) : lp y = 0 ∨ lp y = 1 := by unfold lp; split <;> simp
theorem lp_yes {y : Int} (h : leap y = true) : lp y = 1 := by unfold lp; rw [if_pos h]
theorem lp_no {y : Int} (h : leap y = false) : lp y = 0 := by unfold lp; rw [h]; rfl
theorem lp_400 (y : Int) : leap (y + 400) = leap y := by unfold leap; rw [decide_eq_decide]; omega
theorem yrs_step (y : Int) : yrs (y + 1) = yrs y + 365 + lp y := by
  unfold yrs lp leap
  simp only [decide_eq_true_eq]
  split <;> omega
theorem yrs_mono {a b : Int} (h : a ≤ b) : yrs a ≤ yrs b := by unfold yrs; omega
theorem yrs_1 : yrs 1 = 0 := by unfold yrs; omega
theorem yrs_10000 : yrs 10000 = 3652059 := by unfold yrs; omega
theorem yrs_400 (y : Int) : yrs (y + 400) = yrs y + 146097 := by unfold yrs; omega
theorem yrs_guess {n : Int} (h0 : 0 ≤ n) : yrs (n / 366 + 1) ≤ n := by unfold yrs; omega
theorem yrs_bound {y : Int} (h0 : 1 ≤ y) (h1 : y ≤ 10001) : 0 ≤ yrs y ∧ yrs y ≤ 3652425 := by unfold yrs; omega
theorem mon_step {y m : Int} (h0 : 1 ≤ m) (h1 : m ≤ 12) : mon y (m + 1) = mon y m + days y m := by
  have hl := lp_is y
  unfold mon days
  obtain rfl | rfl | rfl | rfl | rfl | rfl | rfl | rfl | rfl | rfl | rfl | rfl : m = 1 ∨ m = 2 ∨ m = 3 ∨ m = 4 ∨ m = 5 ∨ m = 6 ∨ m = 7 ∨ m = 8 ∨ m = 9 ∨ m = 10 ∨ m = 11 ∨ m = 12 := by omega
  all_goals (simp <;> omega)
theorem mon_1 (y : Int) : mon y 1 = 0 := by unfold mon; simp
theorem mon_13 (y : Int) : mon y 13 = 365 + lp y := by unfold mon; simp; omega
theorem days_in {y m : Int} (h0 : 1 ≤ m) (h1 : m ≤ 12) : 28 ≤ days y m ∧ days y m ≤ 31 := by
  have hl := lp_is y
  unfold days
  split
  · omega
  · split
    · omega
    · split <;> omega
theorem days_out {y m : Int} (h : m < 1 ∨ 12 < m) : days y m = 0 := by unfold days; rw [if_pos h]
theorem days_bound (y m : Int) : 0 ≤ days y m ∧ days y m ≤ 31 := by
  by_cases h : m < 1 ∨ 12 < m
  · rw [days_out h]; omega
  · have := days_in (y := y) (m := m) (by omega) (by omega); omega
theorem mon_mono {y a : Int} (h0 : 1 ≤ a) : ∀ (k : Nat), a + k ≤ 13 → mon y a ≤ mon y (a + k)
  | 0, _ => by simp
  | k + 1, h => by
    have h1 := mon_mono (y := y) h0 k (by omega)
    have h2 := mon_step (y := y) (m := a + k) (by omega) (by omega)
    have h3 := days_bound y (a + k)
    rw [show a + ((k + 1 : Nat) : Int) = a + k + 1 by omega]
    omega
theorem mon_le {y a b : Int} (h0 : 1 ≤ a) (h : a ≤ b) (h1 : b ≤ 13) : mon y a ≤ mon y b := by
  have := mon_mono (y := y) h0 (b - a).toNat (by omega)
  rwa [show a + ((b - a).toNat : Int) = b by omega] at this
theorem mon_bound {y m : Int} (h0 : 1 ≤ m) (h1 : m ≤ 13) : 0 ≤ mon y m ∧ mon y m ≤ 366 := by
  have a := mon_le (y := y) (a := 1) (b := m) (by omega) h0 h1
  have b := mon_le (y := y) (a := m) (b := 13) h0 h1 (by omega)
  rw [mon_1] at a; rw [mon_13] at b
  have := lp_is y
  omega
theorem good_iff {y m d : Int} : good y m d = true ↔ 1 ≤ y ∧ y ≤ 9999 ∧ 1 ≤ m ∧ m ≤ 12 ∧ 1 ≤ d ∧ d ≤ days y m := by
  unfold good
  rw [decide_eq_true_eq]
  constructor
  · rintro ⟨a, b, c, e⟩
    have : ¬ (m < 1 ∨ 12 < m) := fun h => by rw [days_out h] at e; omega
    omega
  · rintro ⟨a, b, _, _, c, e⟩; exact ⟨a, b, c, e⟩
/-- A day's number lies within its month, which lies within its year. -/
theorem num_in {y m d : Int} (h : good y m d = true) : yrs y + mon y m ≤ num y m d ∧ num y m d < yrs y + mon y (m + 1) ∧ yrs y ≤ num y m d ∧ num y m d < yrs (y + 1) := by
  obtain ⟨_, _, h1, h2, h3, h4⟩ := good_iff.1 h
  have a := mon_step (y := y) h1 h2
  have b := mon_bound (y := y) h1 (by omega)
  have c := mon_le (y := y) (a := m + 1) (b := 13) (by omega) (by omega) (by omega)
  rw [mon_13] at c
  rw [yrs_step]
  unfold num
  omega
theorem num_bound {y m d : Int} (h : good y m d = true) : 0 ≤ num y m d ∧ num y m d < 3652059 := by
  obtain ⟨h0, h1, _⟩ := good_iff.1 h
  have a := num_in h
  have b := yrs_mono (a := 1) (b := y) h0
  have c := yrs_mono (a := y + 1) (b := 10000) (by omega)
  rw [yrs_1] at b; rw [yrs_10000] at c
  omega
def later (y m d y' m' d' : Int) : Prop := y > y' ∨ y = y' ∧ (m > m' ∨ m = m' ∧ d > d')
theorem num_later {y m d y' m' d' : Int} (g : good y m d = true) (g' : good y' m' d' = true) (h : later y m d y' m' d') : num y m d > num y' m' d' := by
  have a := num_in g
  have b := num_in g'
  obtain ⟨_, _, h1, h2, h3, h4⟩ := good_iff.1 g
  obtain ⟨_, _, k1, k2, k3, k4⟩ := good_iff.1 g'
  rcases h with h | ⟨rfl, h | ⟨rfl, h⟩⟩
  · have := yrs_mono (a := y' + 1) (b := y) (by omega); omega
  · have := mon_le (y := y) (a := m' + 1) (b := m) (by omega) (by omega) (by omega); omega
  · unfold num; omega
theorem later_or (y m d y' m' d' : Int) : later y m d y' m' d' ∨ (y = y' ∧ m = m' ∧ d = d') ∨ later y' m' d' y m d := by unfold later; omega
theorem num_later_iff {y m d y' m' d' : Int} (g : good y m d = true) (g' : good y' m' d' = true) : num y m d > num y' m' d' ↔ later y m d y' m' d' := by
  constructor
  · intro h
    rcases later_or y m d y' m' d' with k | ⟨rfl, rfl, rfl⟩ | k
    · exact k
    · omega
    · have := num_later g' g k; omega
  · exact num_later g g'
theorem num_inj {y m d y' m' d' : Int} (g : good y m d = true) (g' : good y' m' d' = true) (h : num y m d = num y' m' d') : y = y' ∧ m = m' ∧ d = d' := by
  rcases later_or y m d y' m' d' with k | k | k
  · have := num_later g g' k; omega
  · exact k
  · have := num_later g' g k; omega
/-- A digit's byte. -/
def dch (k : Nat) : UInt8 := UInt8.ofNat (48 + k)
/-- A number in so many digits. -/
def pad : Nat → Nat → List UInt8
  | 0, _ => []
  | k + 1, n => pad k (n / 10) ++ [dch (n % 10)]
theorem pad_length : ∀ k n, (pad k n).length = k
  | 0, _ => rfl
  | k + 1, n => by simp [pad, pad_length k]
theorem pad_0 : ∀ k, pad k 0 = Lib.repeatL [48] k
  | 0 => rfl
  | k + 1 => by
    have e := pad_0 k
    have r : ∀ j, Lib.repeatL [(48 : UInt8)] j ++ [48] = 48 :: Lib.repeatL [48] j := by
      intro j
      induction j with
      | zero => rfl
      | succ j ih => simp only [Lib.repeatL, List.cons_append, List.nil_append, ih]
    show pad k (0 / 10) ++ [dch (0 % 10)] = _
    rw [Nat.zero_div, e, show dch (0 % 10) = 48 from rfl, r]
    rfl
theorem pad_dec : ∀ (k u : Nat), Lib.nDigits u ≤ k → Lib.repeatL [48] (k - Lib.nDigits u) ++ Lib.decDigits u = pad k u
  | 0, u, h => by have := Lib.nDigits_pos u; omega
  | k + 1, u, h => by
    by_cases hu : u < 10
    · rw [Lib.nDigits_small hu, Lib.decDigits_one hu]
      show _ = pad k (u / 10) ++ [dch (u % 10)]
      rw [Nat.div_eq_of_lt hu, Nat.mod_eq_of_lt hu, pad_0, Nat.add_sub_cancel]
      rfl
    · rw [Lib.nDigits_big hu] at h
      rw [Lib.nDigits_big hu, Lib.decDigits, dif_neg hu, ← List.append_assoc, Nat.add_sub_add_right, pad_dec k (u / 10) (by omega)]
      rfl
theorem nDigits_le : ∀ (k u : Nat), u < 10 ^ (k + 1) → Lib.nDigits u ≤ k + 1
  | 0, u, h => by rw [Lib.nDigits_small (by simpa using h)]; exact Nat.le_refl _
  | k + 1, u, h => by
    by_cases hu : u < 10
    · rw [Lib.nDigits_small hu]; omega
    · rw [Lib.nDigits_big hu]
      have := nDigits_le k (u / 10) (by rw [Nat.pow_succ] at h; omega)
      omega
theorem pad_4 (n : Nat) : pad 4 n = [dch (n / 1000 % 10), dch (n / 100 % 10), dch (n / 10 % 10), dch (n % 10)] := by
  simp [pad, Nat.div_div_eq_div_mul]
theorem pad_2 (n : Nat) : pad 2 n = [dch (n / 10 % 10), dch (n % 10)] := by
  simp [pad]
def txt (y m d : Int) : List UInt8 := pad 4 y.toNat ++ [45] ++ pad 2 m.toNat ++ [45] ++ pad 2 d.toNat
theorem txt_length (y m d : Int) : (txt y m d).length = 10 := by simp [txt, pad_length]
theorem txt_is (y m d : Int) : txt y m d =
    [dch (y.toNat / 1000 % 10), dch (y.toNat / 100 % 10), dch (y.toNat / 10 % 10), dch (y.toNat % 10), 45,
      dch (m.toNat / 10 % 10), dch (m.toNat % 10), 45, dch (d.toNat / 10 % 10), dch (d.toNat % 10)] := by
  simp [txt, pad_4, pad_2]
theorem dig_toNat {k : Nat} (h : k < 10) : (dch k).toNat = 48 + k := by simp [dch]; omega
/-- A byte that is a digit. -/
def isD (b : UInt8) : Bool := decide (48 ≤ b.toNat ∧ b.toNat ≤ 57)
theorem isD_dig {k : Nat} (h : k < 10) : isD (dch k) = true := by unfold isD; rw [dig_toNat h]; simp; omega
theorem isD_back {b : UInt8} (h : isD b = true) : dch (b.toNat - 48) = b := by
  unfold isD at h
  rw [decide_eq_true_eq] at h
  rw [dch, show 48 + (b.toNat - 48) = b.toNat by omega]
  simp
theorem isD_lt {b : UInt8} (h : isD b = true) : b.toNat - 48 < 10 := by
  unfold isD at h
  rw [decide_eq_true_eq] at h
  omega
/-- What digits come to. -/
def val (l : List UInt8) : Nat := l.foldl (fun n b => 10 * n + (b.toNat - 48)) 0
theorem val_snoc (l : List UInt8) (b : UInt8) : val (l ++ [b]) = 10 * val l + (b.toNat - 48) := by simp [val]
/-- The form of a day's text: digits, and - where it must stand. -/
def formed (l : List UInt8) : Bool := decide (l.length = 10) && (decide (l.getD 4 0 = 45) && decide (l.getD 7 0 = 45)) && ((l.take 4).all isD && (((l.drop 5).take 2).all isD && (l.drop 8).all isD))
def yearOf (l : List UInt8) : Int := val (l.take 4)
def monthOf (l : List UInt8) : Int := val ((l.drop 5).take 2)
def dayOf (l : List UInt8) : Int := val (l.drop 8)
def reads (l : List UInt8) : Bool := formed l && good (yearOf l) (monthOf l) (dayOf l)
theorem ten {l : List UInt8} (h : l.length = 10) : ∃ a b c d e f g i j k, l = [a, b, c, d, e, f, g, i, j, k] := by
  rcases l with _ | ⟨a, _ | ⟨b, _ | ⟨c, _ | ⟨d, _ | ⟨e, _ | ⟨f, _ | ⟨g, _ | ⟨i, _ | ⟨j, _ | ⟨k, _ | ⟨x, t⟩⟩⟩⟩⟩⟩⟩⟩⟩⟩⟩
  all_goals simp at h
  exact ⟨a, b, c, d, e, f, g, i, j, k, rfl⟩
theorem shape_txt (y m d : Int) : formed (txt y m d) = true := by
  have h : ∀ n, n % 10 < 10 := fun n => Nat.mod_lt _ (by decide)
  rw [txt_is]
  simp [formed, isD_dig, h]
theorem of_txt {y m d : Int} (hy : 0 ≤ y) (hy1 : y ≤ 9999) (hm : 0 ≤ m) (hm1 : m ≤ 99) (hd : 0 ≤ d) (hd1 : d ≤ 99) : yearOf (txt y m d) = y ∧ monthOf (txt y m d) = m ∧ dayOf (txt y m d) = d := by
  have h : ∀ n, n % 10 < 10 := fun n => Nat.mod_lt _ (by decide)
  rw [txt_is]
  simp only [yearOf, monthOf, dayOf, List.take, List.drop, val, List.foldl, dig_toNat (h _)]
  omega
theorem good_small {y m d : Int} (g : good y m d = true) : 0 ≤ y ∧ y ≤ 9999 ∧ 0 ≤ m ∧ m ≤ 99 ∧ 0 ≤ d ∧ d ≤ 99 := by
  obtain ⟨h0, h1, h2, h3, h4, h5⟩ := good_iff.1 g
  have := days_bound y m
  omega
theorem reads_txt {y m d : Int} (g : good y m d = true) : reads (txt y m d) = true := by
  obtain ⟨h0, h1, h2, h3, h4, h5⟩ := good_small g
  obtain ⟨a, b, c⟩ := of_txt h0 h1 h2 h3 h4 h5
  unfold reads
  rw [a, b, c, g, shape_txt]
  rfl
/-- What reads as a day is that day's text. -/
theorem txt_of {l : List UInt8} (h : formed l = true) : txt (yearOf l) (monthOf l) (dayOf l) = l := by
  have hl : l.length = 10 := by
    unfold formed at h
    simp only [Bool.and_eq_true, decide_eq_true_eq] at h
    exact h.1.1
  obtain ⟨a, b, c, d, e, f, g, i, j, k, rfl⟩ := ten hl
  simp [formed] at h
  obtain ⟨⟨rfl, rfl⟩, ⟨ha, hb, hc, hd⟩, ⟨hf, hg⟩, hj, hk⟩ := h
  rw [txt_is]
  have e1 := isD_back ha; have e2 := isD_back hb; have e3 := isD_back hc; have e4 := isD_back hd
  have e5 := isD_back hf; have e6 := isD_back hg; have e7 := isD_back hj; have e8 := isD_back hk
  have l1 := isD_lt ha; have l2 := isD_lt hb; have l3 := isD_lt hc; have l4 := isD_lt hd
  have l5 := isD_lt hf; have l6 := isD_lt hg; have l7 := isD_lt hj; have l8 := isD_lt hk
  generalize a.toNat - 48 = a' at *
  generalize b.toNat - 48 = b' at *
  generalize c.toNat - 48 = c' at *
  generalize d.toNat - 48 = d' at *
  generalize f.toNat - 48 = f' at *
  generalize g.toNat - 48 = g' at *
  generalize j.toNat - 48 = j' at *
  generalize k.toNat - 48 = k' at *
  subst e1 e2 e3 e4 e5 e6 e7 e8
  simp only [yearOf, monthOf, dayOf, List.take, List.drop, val, List.foldl, dig_toNat l1, dig_toNat l2, dig_toNat l3, dig_toNat l4, dig_toNat l5, dig_toNat l6, dig_toNat l7, dig_toNat l8, Int.toNat_natCast]
  simp only [List.cons.injEq, and_true, true_and]
  refine ⟨congrArg dch ?_, congrArg dch ?_, congrArg dch ?_, congrArg dch ?_, congrArg dch ?_, congrArg dch ?_, congrArg dch ?_, congrArg dch ?_⟩ <;> omega
end Go.Proofs.YtnhhhnngocdagaaDoor.P
/- What is wrong with a plan, and its bound, as plain arithmetic (layer 9): no program is named here. -/
namespace Go.Proofs.YtnhhhnngocdagaaDoor.P
open Go.RowKit Mm
def dn (d : Day) : Int := num d.y d.m d.d
/-- Where a meter of that name stands. -/
def meterIx (ms : List Meter) (name : ByteArray) : Option Nat := ms.findIdx? fun m => m.name.data.toList == name.data.toList
def winIn (p : Plan) (w : Win) : Bool := !w.has || (decide (dn w.a ≤ dn w.b) && decide (dn p.a ≤ dn w.a) && decide (dn w.b ≤ dn p.b))
/-- Whether the tiers rise, but the last one; behind one that told `u`. -/
def risesB : Int → List Tier → Bool
  | _, [] => true
  | _, [_] => true
  | u, t :: r => decide (1 ≤ t.upto) && decide (u < t.upto) && risesB t.upto r
def chE (p : Plan) (i : Nat) (c : Charge) : Int :=
  if 8 ≤ i then 6 else if meterIx p.meters c.meter = none ∨ winIn p c.win = false ∨ c.block = 0 then 5 else if 8 < c.tiers.length then 6 else if risesB 0 c.tiers = false then 5 else if 6 < c.adjusts.length then 6 else 0
def maxBound : Int := 1152921504606846976
/-- The least multiple of a block that isn't below. -/
def qty (mx al bl : Int) : Int := if mx - al ≤ 0 then 0 else (mx - al + bl - 1) / bl * bl
def topRate (ts : List Tier) : Int := ts.foldl (fun r t => max r t.rate) 0
def lim (n : Int) (ok : Bool) : Option Int := if ok = true ∧ n < maxBound then some n else none
def adjStep (n : Int) (a : Adj) : Option Int :=
  if a.kind = 1 then lim (mdn (n * a.num) 100000 1) (mdb (n * a.num) 100000 1) else if a.kind = 2 then lim (if a.num < n then a.num else n) true
  else if a.kind = 3 then lim (if n < a.num then a.num else n) true else if a.kind = 4 then lim (cut64 (n + a.num)) (ok64 (n + a.num)) else lim n true
def adjAll : Int → List Adj → Option Int
  | n, [] => some n
  | n, a :: r => (adjStep n a).bind fun m => adjAll m r
def mostOf (c : Charge) (mx : Int) : Option Int :=
  (lim (mdn (topRate c.tiers * qty mx c.allowance c.block) 1000000 1) (mdb (topRate c.tiers * qty mx c.allowance c.block) 1000000 1)).bind fun n => adjAll n c.adjusts
/-- What all charges come to at most, one by one; of one whose meter isn't told: nothing. -/
def mosts (ms : List Meter) : List Charge → Option (List Int)
  | [] => some []
  | c :: r => match meterIx ms c.meter with
    | none => mosts ms r
    | some i => (mostOf c (ms.getD i default).max).bind fun x => (mosts ms r).map (x :: ·)
def sumUp : Int → List Int → Option Int
  | n, [] => some n
  | n, x :: r => if maxBound ≤ x ∨ maxBound ≤ n + x then none else sumUp (n + x) r
def boundOf (p : Plan) : Option Int := (mosts p.meters p.charges).bind fun l => sumUp 0 (p.fees.map (·.amount) ++ l)
/-- The first that is wrong of some rows, from a place on. -/
def firstE {α : Type} (f : Nat → α → Int) (place : α → Int × Int) : Nat → List α → Option (Int × Int × Int)
  | _, [] => none
  | i, x :: r => if f i x = 0 then firstE f place (i + 1) r else some (f i x, (place x).1, (place x).2)
def meterE (p : Plan) (i : Nat) (m : Meter) : Int := if 4 ≤ i then 6 else if meterIx p.meters m.name = some i then 0 else 5
def feeE (p : Plan) (i : Nat) (f : Fee) : Int := if 8 ≤ i then 6 else if winIn p f.win = true then 0 else 5
def hzn (p : Plan) : Int := dn p.b - dn p.a + 1
def headE (p : Plan) : Int := if hzn p < 1 then 5 else if 4000 < hzn p then 6 else 0
/-- What is wrong first, and its place. -/
def wrongOf (p : Plan) : Int × Int × Int :=
  if headE p = 0 then
    match firstE (meterE p) (fun m => (m.line, m.col)) 0 p.meters with
    | some e => e
    | none => match firstE (feeE p) (fun f => (f.line, f.col)) 0 p.fees with
      | some e => e
      | none => match firstE (chE p) (fun c => (c.line, c.col)) 0 p.charges with
        | some e => e
        | none => if boundOf p = none then (6, p.line, p.col) else (0, 0, 0)
  else (headE p, p.line, p.col)
theorem firstE_none {α : Type} {f : Nat → α → Int} {pl : α → Int × Int} : ∀ {i : Nat} {l : List α}, firstE f pl i l = none ↔ ∀ j x, l[j]? = some x → f (i + j) x = 0
  | i, [] => by simp [firstE]
  | i, x :: r => by
    unfold firstE
    by_cases h : f i x = 0
    · rw [if_pos h, firstE_none]
      constructor
      · intro g j y hj
        cases j with
        | zero =>
          obtain rfl : x = y := by simpa using hj
          exact h
        | succ j =>
          have := g j y (by simpa using hj)
          rwa [show i + (j + 1) = i + 1 + j by omega]
      · intro g j y hj
        have := g (j + 1) y (by simpa using hj)
        rwa [show i + (j + 1) = i + 1 + j by omega] at this
    · rw [if_neg h]
      constructor
      · intro g; cases g
      · intro g
        exact absurd (g 0 x rfl) h
/-- A row less: what isn't wrong further behind isn't wrong further ahead. -/
theorem firstE_less {α : Type} {f : Nat → α → Int} {pl : α → Int × Int} (hf : ∀ i x, f (i + 1) x = 0 → f i x = 0) {l : List α} (k : Nat) (h : firstE f pl 0 l = none) : firstE f pl 0 (l.eraseIdx k) = none := by
  rw [firstE_none] at h ⊢
  intro j x hj
  rw [List.getElem?_eraseIdx] at hj
  split at hj
  · exact h j x hj
  · have := h (j + 1) x hj
    rw [Nat.zero_add] at this ⊢
    exact hf j x this
theorem feeE_less (p : Plan) (i : Nat) (f : Fee) (h : feeE p (i + 1) f = 0) : feeE p i f = 0 := by
  unfold feeE at h ⊢
  by_cases h8 : 8 ≤ i + 1
  · rw [if_pos h8] at h; cases h
  · rw [if_neg h8] at h
    rw [if_neg (by omega)]
    exact h
theorem chE_less (p : Plan) (i : Nat) (c : Charge) (h : chE p (i + 1) c = 0) : chE p i c = 0 := by
  unfold chE at h ⊢
  by_cases h8 : 8 ≤ i + 1
  · rw [if_pos h8] at h; cases h
  · rw [if_neg h8] at h
    rw [if_neg (by omega)]
    exact h
theorem wrongOf_zero {p : Plan} : (wrongOf p).1 = 0 ↔ headE p = 0 ∧ firstE (meterE p) (fun m => (m.line, m.col)) 0 p.meters = none ∧ firstE (feeE p) (fun f => (f.line, f.col)) 0 p.fees = none ∧ firstE (chE p) (fun c => (c.line, c.col)) 0 p.charges = none ∧ boundOf p ≠ none := by
  have some_ne : ∀ {α : Type} {f : Nat → α → Int} {pl : α → Int × Int} {l : List α} {i : Nat} {e : Int × Int × Int}, firstE f pl i l = some e → e.1 ≠ 0 := by
    intro α f pl l
    induction l with
    | nil => intro i e h; cases h
    | cons x r ih =>
      intro i e h
      unfold firstE at h
      by_cases hx : f i x = 0
      · rw [if_pos hx] at h; exact ih h
      · rw [if_neg hx] at h
        obtain rfl := Option.some.inj h
        exact hx
  unfold wrongOf
  by_cases h0 : headE p = 0
  · rw [if_pos h0]
    split
    · rename_i e he
      have := some_ne he
      simp [he, this]
    · rename_i he
      split
      · rename_i e hf
        have := some_ne hf
        simp [hf, this]
      · rename_i hf
        split
        · rename_i e hc
          have := some_ne hc
          simp [hc, this]
        · rename_i hc
          by_cases hb : boundOf p = none
          · rw [if_pos hb]; simp [hb]
          · rw [if_neg hb]; simp [h0, he, hf, hc, hb]
  · rw [if_neg h0]; simp [h0]
theorem map_less {α β : Type} (f : α → β) : ∀ (l : List α) (k : Nat), (l.eraseIdx k).map f = (l.map f).eraseIdx k
  | [], k => by simp
  | x :: r, 0 => rfl
  | x :: r, k + 1 => by rw [List.eraseIdx_cons_succ, List.map_cons, List.map_cons, List.eraseIdx_cons_succ, map_less f r k]
theorem sumUp_mono : ∀ {l : List Int} {n m k : Int}, m ≤ n → sumUp n l = some k → ∃ j, sumUp m l = some j ∧ j ≤ k
  | [], n, m, k, h, e => by
    unfold sumUp at e
    obtain rfl := Option.some.inj e
    exact ⟨m, rfl, h⟩
  | x :: r, n, m, k, h, e => by
    unfold sumUp at e ⊢
    by_cases hx : maxBound ≤ x ∨ maxBound ≤ n + x
    · rw [if_pos hx] at e; cases e
    · rw [if_neg hx] at e
      rw [if_neg (by omega)]
      exact sumUp_mono (by omega) e
/-- A sum less one of its numbers, none of them below 0. -/
theorem sumUp_less : ∀ {l : List Int} {n k : Int} (i : Nat), (∀ x ∈ l, 0 ≤ x) → sumUp n l = some k → ∃ j, sumUp n (l.eraseIdx i) = some j ∧ j ≤ k
  | [], n, k, i, _, e => ⟨k, by simpa using e, Int.le_refl _⟩
  | x :: r, n, k, 0, h, e => by
    unfold sumUp at e
    by_cases hx : maxBound ≤ x ∨ maxBound ≤ n + x
    · rw [if_pos hx] at e; cases e
    · rw [if_neg hx] at e
      have := h x (List.mem_cons_self ..)
      exact sumUp_mono (by omega) e
  | x :: r, n, k, i + 1, h, e => by
    unfold sumUp at e
    by_cases hx : maxBound ≤ x ∨ maxBound ≤ n + x
    · rw [if_pos hx] at e; cases e
    · rw [if_neg hx] at e
      rw [List.eraseIdx_cons_succ]
      unfold sumUp
      rw [if_neg hx]
      exact sumUp_less i (fun y hy => h y (List.mem_cons_of_mem _ hy)) e
theorem mosts_less (ms : List Meter) : ∀ {cs : List Charge} {l : List Int} (i : Nat), mosts ms cs = some l → ∃ k, mosts ms (cs.eraseIdx i) = some (l.eraseIdx k)
  | [], l, i, e => ⟨l.length, by
      unfold mosts at e
      obtain rfl := Option.some.inj e
      rfl⟩
  | c :: r, l, 0, e => by
    unfold mosts at e
    rw [List.eraseIdx_cons_zero]
    split at e
    · exact ⟨l.length, by rw [e, List.eraseIdx_of_length_le (Nat.le_refl _)]⟩
    · cases hm : mosts ms r with
      | none => rw [hm] at e; simp at e
      | some l' =>
        rw [hm] at e
        obtain ⟨x, _, hx⟩ := Option.bind_eq_some_iff.1 e
        obtain rfl : x :: l' = l := by simpa using hx
        exact ⟨0, rfl⟩
  | c :: r, l, i + 1, e => by
    unfold mosts at e
    rw [List.eraseIdx_cons_succ]
    unfold mosts
    split at e
    · exact mosts_less ms i e
    · obtain ⟨x, hx, e2⟩ := Option.bind_eq_some_iff.1 e
      cases hm : mosts ms r with
      | none => rw [hm] at e2; simp at e2
      | some l' =>
        rw [hm] at e2
        obtain rfl : x :: l' = l := by simpa using e2
        obtain ⟨k, hk⟩ := mosts_less ms i hm
        exact ⟨k + 1, by rw [hx, hk]; rfl⟩
/-- What a plan's numbers are, that a text tells: none is below 0. -/
structure NoNeg (p : Plan) : Prop where
  fees : ∀ f ∈ p.fees, 0 ≤ f.amount
  rates : ∀ c ∈ p.charges, ∀ t ∈ c.tiers, 0 ≤ t.rate
  adjs : ∀ c ∈ p.charges, ∀ a ∈ c.adjusts, 0 ≤ a.num
  blocks : ∀ c ∈ p.charges, 0 ≤ c.block
theorem topRate_nn (ts : List Tier) : 0 ≤ topRate ts := by
  have : ∀ (ts : List Tier) (r : Int), 0 ≤ r → 0 ≤ ts.foldl (fun r t => max r t.rate) r := by
    intro ts
    induction ts with
    | nil => intro r h; exact h
    | cons t q ih => intro r h; exact ih _ (by show 0 ≤ max r t.rate; omega)
  exact this ts 0 (Int.le_refl _)
theorem qty_nn {mx al bl : Int} (h : 0 ≤ bl) : 0 ≤ qty mx al bl := by
  unfold qty
  split
  · exact Int.le_refl _
  · rename_i h1
    exact Int.mul_nonneg (Int.ediv_nonneg (by omega) h) h
theorem mdn_nn {p c : Int} (h : 0 ≤ p) (hc : 0 < c) (hb : mdb p c 1 = true) : 0 ≤ mdn p c 1 := by
  obtain ⟨_, _, _, e⟩ := mdb_true hb
  rw [e]
  have := (rnd_ge p c 1).1
  have := Int.ediv_nonneg h (by omega : 0 ≤ c)
  omega
theorem lim_some {n k : Int} {b : Bool} (h : lim n b = some k) : b = true ∧ n < maxBound ∧ n = k := by
  unfold lim at h
  split at h
  · rename_i g
    exact ⟨g.1, g.2, Option.some.inj h⟩
  · cases h
theorem adjStep_nn {n k : Int} {a : Adj} (hn : 0 ≤ n) (ha : 0 ≤ a.num) (h : adjStep n a = some k) : 0 ≤ k := by
  unfold adjStep at h
  split at h
  · obtain ⟨b, _, rfl⟩ := lim_some h
    exact mdn_nn (Int.mul_nonneg hn ha) (by decide) b
  · split at h
    · obtain ⟨_, _, rfl⟩ := lim_some h
      split <;> omega
    · split at h
      · obtain ⟨_, _, rfl⟩ := lim_some h
        split <;> omega
      · split at h
        · obtain ⟨b, _, rfl⟩ := lim_some h
          rw [ok64_iff] at b
          rw [cut64_t b]
          omega
        · obtain ⟨_, _, rfl⟩ := lim_some h
          exact hn
theorem adjAll_nn : ∀ {l : List Adj} {n k : Int}, 0 ≤ n → (∀ a ∈ l, 0 ≤ a.num) → adjAll n l = some k → 0 ≤ k
  | [], n, k, hn, _, e => by
    unfold adjAll at e
    obtain rfl := Option.some.inj e
    exact hn
  | a :: r, n, k, hn, h, e => by
    unfold adjAll at e
    obtain ⟨m, hm, e2⟩ := Option.bind_eq_some_iff.1 e
    exact adjAll_nn (adjStep_nn hn (h a (List.mem_cons_self ..)) hm) (fun b hb => h b (List.mem_cons_of_mem _ hb)) e2
theorem mostOf_nn {c : Charge} {mx k : Int} (ha : ∀ a ∈ c.adjusts, 0 ≤ a.num) (hb : 0 ≤ c.block) (h : mostOf c mx = some k) : 0 ≤ k := by
  unfold mostOf at h
  obtain ⟨n, hn, e⟩ := Option.bind_eq_some_iff.1 h
  obtain ⟨b, _, rfl⟩ := lim_some hn
  exact adjAll_nn (mdn_nn (Int.mul_nonneg (topRate_nn _) (qty_nn hb)) (by decide) b) ha e
theorem mosts_nn (ms : List Meter) : ∀ {cs : List Charge} {l : List Int}, (∀ c ∈ cs, (∀ a ∈ c.adjusts, 0 ≤ a.num) ∧ 0 ≤ c.block) → mosts ms cs = some l → ∀ x ∈ l, 0 ≤ x
  | [], l, _, e => by
    unfold mosts at e
    obtain rfl := Option.some.inj e
    intro x hx; cases hx
  | c :: r, l, h, e => by
    have hr := fun c hc => h c (List.mem_cons_of_mem _ hc)
    unfold mosts at e
    split at e
    · exact mosts_nn ms hr e
    · obtain ⟨x, hx, e2⟩ := Option.bind_eq_some_iff.1 e
      cases hm : mosts ms r with
      | none => rw [hm] at e2; simp at e2
      | some l' =>
        rw [hm] at e2
        obtain rfl : x :: l' = l := by simpa using e2
        intro y hy
        rcases List.mem_cons.1 hy with rfl | hy
        · exact mostOf_nn (h c (List.mem_cons_self ..)).1 (h c (List.mem_cons_self ..)).2 hx
        · exact mosts_nn ms hr hm y hy
theorem sound_less_fee {p : Plan} (hn : NoNeg p) (h : (wrongOf p).1 = 0) (k : Nat) : (wrongOf { p with fees := p.fees.eraseIdx k }).1 = 0 ∧ ∃ a b, boundOf p = some a ∧ boundOf { p with fees := p.fees.eraseIdx k } = some b ∧ b ≤ a := by
  rw [wrongOf_zero] at h
  obtain ⟨h0, h1, h2, h3, h4⟩ := h
  obtain ⟨a, ha⟩ := Option.ne_none_iff_exists'.1 h4
  have hb : ∃ b, boundOf { p with fees := p.fees.eraseIdx k } = some b ∧ b ≤ a := by
    have e := ha
    unfold boundOf at e ⊢
    obtain ⟨l, hl, e2⟩ := Option.bind_eq_some_iff.1 e
    have nn : ∀ x ∈ p.fees.map (·.amount) ++ l, 0 ≤ x := by
      intro x hx
      rcases List.mem_append.1 hx with hx | hx
      · obtain ⟨f, hf, rfl⟩ := List.mem_map.1 hx
        exact hn.fees f hf
      · exact mosts_nn p.meters (fun c hc => ⟨hn.adjs c hc, hn.blocks c hc⟩) hl x hx
    show ∃ b, ((mosts p.meters p.charges).bind fun l => sumUp 0 ((p.fees.eraseIdx k).map (·.amount) ++ l)) = some b ∧ b ≤ a
    rw [hl]
    show ∃ b, sumUp 0 ((p.fees.eraseIdx k).map (·.amount) ++ l) = some b ∧ b ≤ a
    by_cases hk : k < p.fees.length
    · have := sumUp_less k nn e2
      rw [List.eraseIdx_append_of_lt_length (by simpa using hk)] at this
      rw [map_less]
      exact this
    · rw [List.eraseIdx_of_length_le (by omega)]
      exact ⟨a, e2, Int.le_refl _⟩
  refine ⟨?_, a, ?_⟩
  · rw [wrongOf_zero]
    refine ⟨h0, h1, firstE_less (feeE_less p) k h2, h3, ?_⟩
    obtain ⟨b, hb, _⟩ := hb
    rw [hb]; simp
  · obtain ⟨b, h5, h6⟩ := hb
    exact ⟨b, ha, h5, h6⟩
theorem sound_less_charge {p : Plan} (hn : NoNeg p) (h : (wrongOf p).1 = 0) (k : Nat) : (wrongOf { p with charges := p.charges.eraseIdx k }).1 = 0 ∧ ∃ a b, boundOf p = some a ∧ boundOf { p with charges := p.charges.eraseIdx k } = some b ∧ b ≤ a := by
  rw [wrongOf_zero] at h
  obtain ⟨h0, h1, h2, h3, h4⟩ := h
  obtain ⟨a, ha⟩ := Option.ne_none_iff_exists'.1 h4
  have hb : ∃ b, boundOf { p with charges := p.charges.eraseIdx k } = some b ∧ b ≤ a := by
    have e := ha
    unfold boundOf at e ⊢
    obtain ⟨l, hl, e2⟩ := Option.bind_eq_some_iff.1 e
    have nn : ∀ x ∈ p.fees.map (·.amount) ++ l, 0 ≤ x := by
      intro x hx
      rcases List.mem_append.1 hx with hx | hx
      · obtain ⟨f, hf, rfl⟩ := List.mem_map.1 hx
        exact hn.fees f hf
      · exact mosts_nn p.meters (fun c hc => ⟨hn.adjs c hc, hn.blocks c hc⟩) hl x hx
    obtain ⟨j, hj⟩ := mosts_less p.meters k hl
    show ∃ b, ((mosts p.meters (p.charges.eraseIdx k)).bind fun l => sumUp 0 (p.fees.map (·.amount) ++ l)) = some b ∧ b ≤ a
    rw [hj]
    show ∃ b, sumUp 0 (p.fees.map (·.amount) ++ l.eraseIdx j) = some b ∧ b ≤ a
    have := sumUp_less (p.fees.length + j) nn e2
    rw [List.eraseIdx_append_of_length_le (by simp)] at this
    simpa using this
  refine ⟨?_, a, ?_⟩
  · rw [wrongOf_zero]
    refine ⟨h0, h1, h2, firstE_less (chE_less p) k h3, ?_⟩
    obtain ⟨b, hb, _⟩ := hb
    rw [hb]; simp
  · obtain ⟨b, h5, h6⟩ := hb
    exact ⟨b, ha, h5, h6⟩
end Go.Proofs.YtnhhhnngocdagaaDoor.P
/- What is wrong with a plan, and its bound (layer 9): one step of a loop after the other. No program is named here. -/
namespace Go.Proofs.YtnhhhnngocdagaaDoor.P
open Go.RowKit Mm
theorem drop_at {α : Type} {l : List α} {i : Nat} {x : α} (h : l[i]? = some x) : l.drop i = x :: l.drop (i + 1) := by
  obtain ⟨hi, rfl⟩ := List.getElem?_eq_some_iff.1 h
  exact List.drop_eq_getElem_cons hi
theorem ix_at {ms : List Meter} {n : ByteArray} {i : Nat} {m : Meter} (h : ms[i]? = some m) (e : m.name.data.toList = n.data.toList) (hb : ∀ (j : Nat) (m' : Meter), j < i → ms[j]? = some m' → m'.name.data.toList ≠ n.data.toList) : meterIx ms n = some i := by
  obtain ⟨hi, hm⟩ := List.getElem?_eq_some_iff.1 h
  unfold meterIx
  rw [List.findIdx?_eq_some_iff_getElem]
  refine ⟨hi, by rw [hm]; simp [e], fun j hj => ?_⟩
  have := hb j (ms[j]'(by omega)) hj (List.getElem?_eq_getElem (by omega))
  simpa using this
theorem ix_not {ms : List Meter} {n : ByteArray} (h : ∀ (j : Nat) (m : Meter), ms[j]? = some m → m.name.data.toList ≠ n.data.toList) : meterIx ms n = none := by
  unfold meterIx
  rw [List.findIdx?_eq_none_iff]
  intro m hm
  obtain ⟨j, hj, e⟩ := List.getElem_of_mem hm
  have := h j m (by rw [List.getElem?_eq_getElem hj, e])
  simpa using this
theorem rises_stop {l : List Tier} {u : Int} {i : Nat} (h : l.length ≤ i + 1) : risesB u (l.drop i) = true := by
  have : (l.drop i).length ≤ 1 := by rw [List.length_drop]; omega
  cases hd : l.drop i with
  | nil => rfl
  | cons t r =>
    rw [hd] at this
    cases r with
    | nil => rfl
    | cons _ _ => simp at this
theorem rises_step {l : List Tier} {u : Int} {i : Nat} {t : Tier} (h : l[i]? = some t) (hi : i + 1 < l.length) : risesB u (l.drop i) = (decide (1 ≤ t.upto) && decide (u < t.upto) && risesB t.upto (l.drop (i + 1))) := by
  obtain ⟨t', h'⟩ : ∃ t', l[i + 1]? = some t' := ⟨_, List.getElem?_eq_getElem hi⟩
  rw [drop_at h, drop_at h']
  rfl
theorem firstE_step {α : Type} {f : Nat → α → Int} {pl : α → Int × Int} {l : List α} {i : Nat} {x : α} (h : l[i]? = some x) : firstE f pl i (l.drop i) = if f i x = 0 then firstE f pl (i + 1) (l.drop (i + 1)) else some (f i x, (pl x).1, (pl x).2) := by
  rw [drop_at h]
  rfl
theorem firstE_end {α : Type} {f : Nat → α → Int} {pl : α → Int × Int} {l : List α} {i : Nat} (h : l.length ≤ i) : firstE f pl i (l.drop i) = none := by
  rw [List.drop_of_length_le h]
  rfl
theorem sumUp_step {l : List Int} {i : Nat} {x n : Int} (h : l[i]? = some x) : sumUp n (l.drop i) = if maxBound ≤ x ∨ maxBound ≤ n + x then none else sumUp (n + x) (l.drop (i + 1)) := by
  rw [drop_at h]
  rfl
theorem sumUp_end {l : List Int} {i : Nat} {n : Int} (h : l.length ≤ i) : sumUp n (l.drop i) = some n := by
  rw [List.drop_of_length_le h]
  rfl
theorem adjAll_step {l : List Adj} {i : Nat} {a : Adj} {n : Int} (h : l[i]? = some a) : adjAll n (l.drop i) = (adjStep n a).bind fun m => adjAll m (l.drop (i + 1)) := by
  rw [drop_at h]
  rfl
theorem adjAll_end {l : List Adj} {i : Nat} {n : Int} (h : l.length ≤ i) : adjAll n (l.drop i) = some n := by
  rw [List.drop_of_length_le h]
  rfl
theorem topRate_step {l : List Tier} {i : Nat} {t : Tier} (h : l[i]? = some t) : topRate (l.take (i + 1)) = max (topRate (l.take i)) t.rate := by
  unfold topRate
  rw [List.take_add_one, h, List.foldl_append]
  rfl
theorem mosts_none {ms : List Meter} {cs : List Charge} {i : Nat} {c : Charge} (h : cs[i]? = some c) (e : meterIx ms c.meter = none) : mosts ms (cs.drop i) = mosts ms (cs.drop (i + 1)) := by
  rw [drop_at h]
  conv => lhs; unfold mosts
  rw [e]
theorem mosts_some {ms : List Meter} {cs : List Charge} {i k : Nat} {c : Charge} (h : cs[i]? = some c) (e : meterIx ms c.meter = some k) : mosts ms (cs.drop i) = (mostOf c (ms.getD k default).max).bind fun x => (mosts ms (cs.drop (i + 1))).map (x :: ·) := by
  rw [drop_at h]
  conv => lhs; unfold mosts
  rw [e]
theorem mosts_end {ms : List Meter} {cs : List Charge} {i : Nat} (h : cs.length ≤ i) : mosts ms (cs.drop i) = some [] := by
  rw [List.drop_of_length_le h]
  rfl
/-- The least multiple, counted upwards. -/
theorem qty_count {mx al bl : Int} {k : Nat} (hb : 0 < bl) (h1 : mx - al ≤ k * bl) (h2 : k = 0 ∨ (k : Int) * bl - bl < mx - al) : qty mx al bl = k * bl := by
  unfold qty
  rcases h2 with rfl | h2
  · rw [if_pos (by simpa using h1)]
    simp
  · by_cases h3 : mx - al ≤ 0
    · rw [if_pos h3]
      cases k with
      | zero => simp
      | succ k =>
        exfalso
        have : 0 ≤ (k : Int) * bl := Int.mul_nonneg (Int.natCast_nonneg k) (by omega)
        have e : ((k + 1 : Nat) : Int) * bl = (k : Int) * bl + bl := by rw [Int.natCast_succ, Int.add_mul, Int.one_mul]
        omega
    · rw [if_neg h3]
      congr 1
      have e : (mx - al + bl - 1) / bl = k := by
        rw [Int.ediv_eq_iff_of_pos hb]
        constructor <;> omega
      exact e
/-- Less a charge's place, the rows ahead and behind. -/
theorem erase_fee {α : Type} (l : List α) (k : Nat) : l.eraseIdx k = l.take k ++ l.drop (k + 1) := List.eraseIdx_eq_take_drop_succ l k
end Go.Proofs.YtnhhhnngocdagaaDoor.P

/- What rounding keeps: plain arithmetic; no program is named here. -/
import Derived.Test.YtpmibknabckboaaPureR
namespace Go.Proofs.Ytpmibknabckboaa.P
open Go.RowKit

theorem rup_pos {q r c mode : Int} (hc : 0 < c) (hm : goodm mode = true) (h : rup q r c mode = true) : 0 < r := by
  rcases rup_asked (q := q) (r := r) (c := c) hm with ⟨h1, _⟩ | ⟨_, h2⟩
  · rw [h1] at h; cases h
  · omega
theorem rnd_i64 {a c mode : Int} (ha : I64 a) (hc : 0 < c) (hm : goodm mode = true) : I64 (rnd a c mode) := by
  have e := Int.mul_ediv_add_emod a c
  rw [Int.mul_comm] at e
  have r0 := Int.emod_nonneg a (show c ≠ 0 by omega)
  have r1 := Int.emod_lt_of_pos a hc
  have l1 : -9223372036854775808 ≤ a / c := Int.le_ediv_of_mul_le hc (by unfold I64 at ha; omega)
  have l2 : a / c < 9223372036854775808 := Int.ediv_lt_of_lt_mul hc (by unfold I64 at ha; omega)
  unfold rnd
  split
  · rename_i h
    have hp := rup_pos hc hm h
    have l3 : a / c < 4611686018427387904 := Int.ediv_lt_of_lt_mul hc (by unfold I64 at ha; omega)
    unfold I64; omega
  · unfold I64; omega
theorem mdb_i64 {a c mode : Int} (ha : I64 a) (hc : 0 < c) (hm : goodm mode = true) : mdb a c mode = true ∧ mdn a c mode = rnd a c mode := by
  have h := rnd_i64 (mode := mode) ha hc hm
  exact ⟨by rw [mdb_good hc hm]; exact ok64_t h, by rw [mdn_good hc hm]; exact cut64_t h⟩
theorem rnd_mono {a b c mode : Int} (hc : 0 < c) (hm : goodm mode = true) (h : a ≤ b) : rnd a c mode ≤ rnd b c mode := by
  have h1 : a / c ≤ b / c := Int.ediv_le_ediv hc h
  by_cases h2 : a / c = b / c
  · have ea := Int.mul_ediv_add_emod a c
    have eb := Int.mul_ediv_add_emod b c
    rw [← h2] at eb
    have hr : a % c ≤ b % c := by omega
    unfold rnd
    rw [← h2]
    rcases rup_asked (q := a / c) (r := a % c) (c := c) hm with ⟨u1, u2⟩ | ⟨u1, u2⟩
    · rw [u1]; simp; split <;> omega
    · rcases rup_asked (q := a / c) (r := b % c) (c := c) hm with ⟨v1, v2⟩ | ⟨v1, v2⟩
      · exfalso; omega
      · rw [u1, v1]; omega
  · have h3 := rnd_ge a c mode
    have h4 := rnd_ge b c mode
    omega
/-- The laws' answer on order: both or none; and the lesser is not above. -/
theorem md_mono {a b c mode : Int} (ha : I64 a) (hb : I64 b) (h : a ≤ b) : mdb a c mode = mdb b c mode ∧ (mdb a c mode = true → mdn a c mode ≤ mdn b c mode) := by
  by_cases hc : 0 < c
  · by_cases hm : goodm mode = true
    · have h1 := mdb_i64 (mode := mode) ha hc hm
      have h2 := mdb_i64 (mode := mode) hb hc hm
      rw [h1.1, h2.1, h1.2, h2.2]
      exact ⟨rfl, fun _ => rnd_mono hc hm h⟩
    · have hm' : goodm mode = false := by simpa using hm
      rw [mdb_m hm', mdb_m hm']
      exact ⟨rfl, fun h => by cases h⟩
  · rw [mdb_c (by omega), mdb_c (by omega)]
    exact ⟨rfl, fun h => by cases h⟩
theorem good0 : goodm 0 = true := by decide
theorem good1 : goodm 1 = true := by decide
theorem good2 : goodm 2 = true := by decide
theorem good3 : goodm 3 = true := by decide
theorem rnd0 (p c : Int) : rnd p c 0 = p / c := by unfold rnd rup; simp
theorem rnd1 (p c : Int) : rnd p c 1 = p / c + (if 0 < p % c then 1 else 0) := by
  unfold rnd; rw [rup1]; by_cases h : 0 < p % c <;> simp [h]
/-- Up: the multiple is not below, and nothing is left of it. -/
theorem up_facts {a c : Int} (hc : 0 < c) : a ≤ rnd a c 1 * c ∧ (rnd a c 1 * c).tmod c = 0 := by
  refine ⟨?_, Int.mul_tmod_left _ _⟩
  have e := Int.mul_ediv_add_emod a c
  rw [Int.mul_comm] at e
  have r0 := Int.emod_nonneg a (show c ≠ 0 by omega)
  have r1 := Int.emod_lt_of_pos a hc
  rw [rnd1]
  split
  · rw [Int.add_mul, Int.one_mul]; omega
  · rw [Int.add_zero]; omega
/-- The four ways: all that RoundModes asks. -/
theorem modes_facts {p c : Int} (hc : 0 < c) (h0 : mdb p c 0 = true) (h1 : mdb p c 1 = true) :
    mdb p c 2 = true ∧ mdb p c 3 = true ∧
    ((mdn p c 0 * c = p ∧ mdn p c 1 = mdn p c 0 ∧ mdn p c 2 = mdn p c 0 ∧ mdn p c 3 = mdn p c 0) ∨
     (mdn p c 0 * c ≠ p ∧ mdn p c 1 = mdn p c 0 + 1 ∧ (mdn p c 2 = mdn p c 0 ∨ mdn p c 2 = mdn p c 0 + 1) ∧ (mdn p c 3 = mdn p c 0 ∨ mdn p c 3 = mdn p c 0 + 1))) := by
  rw [mdb_good hc good0, ok64_iff] at h0
  rw [mdb_good hc good1, ok64_iff] at h1
  have e := Int.mul_ediv_add_emod p c
  rw [Int.mul_comm] at e
  have r0 := Int.emod_nonneg p (show c ≠ 0 by omega)
  have i2 : rnd p c 2 = rnd p c 0 ∨ rnd p c 2 = rnd p c 1 := by
    rw [rnd0, rnd1]; unfold rnd; rw [rup2]
    by_cases h : 0 < p % c
    · rw [if_pos h]
      cases decide (c ≤ 2 * (p % c)) <;> simp
    · rw [decide_eq_false (show ¬ c ≤ 2 * (p % c) by omega)]; simp
  have i3 : rnd p c 3 = rnd p c 0 ∨ rnd p c 3 = rnd p c 1 := by
    rw [rnd0, rnd1]; unfold rnd
    by_cases h : 0 < p % c
    · rw [if_pos h]
      cases rup (p / c) (p % c) c 3 <;> simp
    · rcases rup_asked (q := p / c) (r := p % c) (c := c) good3 with ⟨u, _⟩ | ⟨u, _⟩
      · rw [u]; simp [h]
      · exact absurd (rup_pos hc good3 u) h
  have j2 : I64 (rnd p c 2) := by rcases i2 with h | h <;> rw [h] <;> assumption
  have j3 : I64 (rnd p c 3) := by rcases i3 with h | h <;> rw [h] <;> assumption
  rw [mdb_good hc good2, mdb_good hc good3, mdn_good hc good0, mdn_good hc good1, mdn_good hc good2, mdn_good hc good3, cut64_t h0, cut64_t h1, cut64_t j2, cut64_t j3]
  refine ⟨ok64_t j2, ok64_t j3, ?_⟩
  rw [rnd0, rnd1] at i2 i3 ⊢
  by_cases h : 0 < p % c
  · refine Or.inr ⟨by omega, by simp [h], ?_, ?_⟩
    · simpa [h] using i2
    · simpa [h] using i3
  · refine Or.inl ⟨by omega, by simp [h], ?_, ?_⟩
    · simpa [h] using i2
    · simpa [h] using i3
/-- What is rounded down of a number is rounded up of its opposite, with the other sign. -/
theorem turned_floor {p c : Int} (hc : 0 < c) : rnd (-p) c 1 = -rnd p c 0 := by
  rw [rnd0, rnd1]
  by_cases h : p % c = 0
  · rw [(neg_div_zero hc h).1, (neg_div_zero hc h).2]; simp
  · have r1 := Int.emod_lt_of_pos p hc
    rw [(neg_div_pos hc h).1, (neg_div_pos hc h).2, if_pos (by omega)]; omega
theorem turned_even {p c : Int} (hc : 0 < c) : rnd (-p) c 3 = -rnd p c 3 := by
  by_cases h : p % c = 0
  · unfold rnd
    rw [(neg_div_zero hc h).1, (neg_div_zero hc h).2, h]
    have z : ∀ q : Int, rup q 0 c 3 = false := fun q => by
      rcases Bool.eq_false_or_eq_true (rup q 0 c 3) with u | u
      · exact absurd (rup_pos hc good3 u) (by omega)
      · exact u
    rw [z, z]; simp
  · have r0 := Int.emod_nonneg p (show c ≠ 0 by omega)
    have r1 := Int.emod_lt_of_pos p hc
    unfold rnd
    rw [(neg_div_pos hc h).1, (neg_div_pos hc h).2]
    generalize p / c = q at *
    generalize p % c = r at *
    rcases rup_asked (q := q) (r := r) (c := c) good3 with ⟨u1, u2⟩ | ⟨u1, u2⟩ <;>
      rcases rup_asked (q := -q - 1) (r := c - r) (c := c) good3 with ⟨v1, v2⟩ | ⟨v1, v2⟩ <;> rw [u1, v1] <;> simp <;> omega
/-- Both told, by a mode and its mirror: the one is the other's opposite. -/
theorem turned_md {p c : Int} (m m' : Int) (hm : goodm m = true) (hm' : goodm m' = true) (ht : 0 < c → rnd (-p) c m' = -rnd p c m) (h1 : mdb p c m = true) (h2 : mdb (-p) c m' = true) : I64 (-mdn (-p) c m') ∧ mdn p c m = -mdn (-p) c m' := by
  have hc : 0 < c := by
    by_cases h : 0 < c
    · exact h
    · rw [mdb_c (by omega)] at h1; cases h1
  rw [mdb_good hc hm, ok64_iff] at h1
  rw [mdb_good hc hm', ok64_iff] at h2
  rw [mdn_good hc hm, mdn_good hc hm', cut64_t h1, cut64_t h2, ht hc]
  exact ⟨by rw [Int.neg_neg]; exact h1, by omega⟩
theorem mdb_true {p c mode : Int} (h : mdb p c mode = true) : 0 < c ∧ goodm mode = true ∧ I64 (rnd p c mode) ∧ mdn p c mode = rnd p c mode := by
  have hc : 0 < c := by
    by_cases h1 : 0 < c
    · exact h1
    · rw [mdb_c (by omega)] at h; cases h
  have hm : goodm mode = true := by
    rcases Bool.eq_false_or_eq_true (goodm mode) with h1 | h1
    · exact h1
    · rw [mdb_m h1] at h; cases h
  rw [mdb_good hc hm, ok64_iff] at h
  exact ⟨hc, hm, h, by rw [mdn_good hc hm]; exact cut64_t h⟩
theorem mdb_false {p c mode : Int} (h : mdb p c mode = false) : mdn p c mode = 0 := by
  unfold mdb at h
  unfold mdn
  split
  · rename_i h1
    rw [h1] at h
    unfold cut64
    rw [show ok64 (rnd p c mode) = false by simpa using h]; rfl
  · rfl
/-- All that RoundNear asks, of a number that is told. -/
theorem near_facts {p c mode n d : Int} (h : mdb p c mode = true) (hn : n = mdn p c mode) (hd : d = p - n * c) :
    0 < c ∧ (d.natAbs : Int) < c ∧
    ((mode = 0 ∧ 0 ≤ d) ∨ (mode = 1 ∧ d ≤ 0) ∨ (mode = 2 ∧ ((d.natAbs : Int) < c - d.natAbs ∨ ((d.natAbs : Int) = c - d.natAbs ∧ d < 0))) ∨
     (mode = 3 ∧ ((d.natAbs : Int) < c - d.natAbs ∨ ((d.natAbs : Int) = c - d.natAbs ∧ n % 2 = 0)))) := by
  obtain ⟨hc, hm, _, e⟩ := mdb_true h
  rw [e] at hn
  have ee := Int.mul_ediv_add_emod p c
  rw [Int.mul_comm] at ee
  have r0 := Int.emod_nonneg p (show c ≠ 0 by omega)
  have r1 := Int.emod_lt_of_pos p hc
  refine ⟨hc, ?_⟩
  rcases rup_asked (q := p / c) (r := p % c) (c := c) hm with ⟨u, v⟩ | ⟨u, v⟩
  · have e1 : n = p / c := by rw [hn]; unfold rnd; rw [u]; simp
    rw [e1] at hd ⊢
    have e2 : d = p % c := by omega
    generalize p % c = r at *
    generalize p / c = q at *
    clear hd ee hn e u h
    subst e2
    refine ⟨by omega, ?_⟩
    omega
  · have e1 : n = p / c + 1 := by rw [hn]; unfold rnd; rw [u]; simp
    rw [e1, Int.add_mul, Int.one_mul] at hd
    rw [e1]
    have e2 : d = p % c - c := by omega
    generalize p % c = r at *
    generalize p / c = q at *
    clear hd ee hn e u h
    subst e2
    refine ⟨by omega, ?_⟩
    omega
end Go.Proofs.Ytpmibknabckboaa.P

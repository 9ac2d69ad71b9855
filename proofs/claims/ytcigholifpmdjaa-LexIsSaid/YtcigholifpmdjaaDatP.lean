/- Days of the calendar as plain arithmetic: no program is named here. -/
import Derived.Test.YtcigholifpmdjaaPure
import Derived.Lib.Itoa
import Derived.Lib.ItoaNum
import Derived.Lib.Repeat
namespace Go.Proofs.Ytcigholifpmdjaa.P
open Go.RowKit

def leap (y : Int) : Bool := decide (y % 4 = 0 ∧ (y % 100 ≠ 0 ∨ y % 400 = 0))
/-- One where the year is a leap year. -/
def lp (y : Int) : Int := if leap y then 1 else 0
def days (y m : Int) : Int :=
  if m < 1 ∨ 12 < m then 0 else if m = 4 ∨ m = 6 ∨ m = 9 ∨ m = 11 then 30 else if m = 2 then 28 + lp y else 31
def good (y m d : Int) : Bool := decide (1 ≤ y ∧ y ≤ 9999 ∧ 1 ≤ d ∧ d ≤ days y m)
/-- How many days lie ahead of a year. -/
def yrs (y : Int) : Int := 365 * (y - 1) + (y - 1) / 4 - (y - 1) / 100 + (y - 1) / 400
/-- How many days of its year lie ahead of a month. -/
def mon (y m : Int) : Int :=
  if m ≤ 1 then 0 else if m = 2 then 31 else lp y +
    (if m = 3 then 59 else if m = 4 then 90 else if m = 5 then 120 else if m = 6 then 151 else if m = 7 then 181 else if m = 8 then 212
      else if m = 9 then 243 else if m = 10 then 273 else if m = 11 then 304 else if m = 12 then 334 else 365)
def num (y m d : Int) : Int := yrs y + mon y m + d - 1

theorem lp_is (y : Int) : lp y = 0 ∨ lp y = 1 := by unfold lp; split <;> simp
theorem lp_yes {y : Int} (h : leap y = true) : lp y = 1 := by unfold lp; rw [if_pos h]
theorem lp_no {y : Int} (h : leap y = false) : lp y = 0 := by unfold lp; rw [h]; rfl
theorem lp_400 (y : Int) : leap (y + 400) = leap y := by unfold leap; rw [decide_eq_decide]; omega
theorem yrs_step (y : Int) : yrs (y + 1) = yrs y + 365 + lp y := by
  unfold yrs lp leap
  simp only [decide_eq_true_eq]
  split <;> omega
theorem yrs_mono {a b : Int} (h : a ≤ b) : yrs a ≤ yrs b := by unfold yrs; omega
theorem yrs_1 : yrs 1 = 0 := by unfold yrs; omega
theorem yrs_10000 : yrs 10000 = 3652059 := by unfold yrs; omega
theorem yrs_400 (y : Int) : yrs (y + 400) = yrs y + 146097 := by unfold yrs; omega
theorem yrs_guess {n : Int} (h0 : 0 ≤ n) : yrs (n / 366 + 1) ≤ n := by unfold yrs; omega
theorem yrs_bound {y : Int} (h0 : 1 ≤ y) (h1 : y ≤ 10001) : 0 ≤ yrs y ∧ yrs y ≤ 3652425 := by unfold yrs; omega
theorem mon_step {y m : Int} (h0 : 1 ≤ m) (h1 : m ≤ 12) : mon y (m + 1) = mon y m + days y m := by
  have hl := lp_is y
  unfold mon days
  obtain rfl | rfl | rfl | rfl | rfl | rfl | rfl | rfl | rfl | rfl | rfl | rfl : m = 1 ∨ m = 2 ∨ m = 3 ∨ m = 4 ∨ m = 5 ∨ m = 6 ∨ m = 7 ∨ m = 8 ∨ m = 9 ∨ m = 10 ∨ m = 11 ∨ m = 12 := by omega
  all_goals (simp <;> omega)
theorem mon_1 (y : Int) : mon y 1 = 0 := by unfold mon; simp
theorem mon_13 (y : Int) : mon y 13 = 365 + lp y := by unfold mon; simp; omega
theorem days_in {y m : Int} (h0 : 1 ≤ m) (h1 : m ≤ 12) : 28 ≤ days y m ∧ days y m ≤ 31 := by
  have hl := lp_is y
  unfold days
  split
  · omega
  · split
    · omega
    · split <;> omega
theorem days_out {y m : Int} (h : m < 1 ∨ 12 < m) : days y m = 0 := by unfold days; rw [if_pos h]
theorem days_bound (y m : Int) : 0 ≤ days y m ∧ days y m ≤ 31 := by
  by_cases h : m < 1 ∨ 12 < m
  · rw [days_out h]; omega
  · have := days_in (y := y) (m := m) (by omega) (by omega); omega
theorem mon_mono {y a : Int} (h0 : 1 ≤ a) : ∀ (k : Nat), a + k ≤ 13 → mon y a ≤ mon y (a + k)
  | 0, _ => by simp
  | k + 1, h => by
    have h1 := mon_mono (y := y) h0 k (by omega)
    have h2 := mon_step (y := y) (m := a + k) (by omega) (by omega)
    have h3 := days_bound y (a + k)
    rw [show a + ((k + 1 : Nat) : Int) = a + k + 1 by omega]
    omega
theorem mon_le {y a b : Int} (h0 : 1 ≤ a) (h : a ≤ b) (h1 : b ≤ 13) : mon y a ≤ mon y b := by
  have := mon_mono (y := y) h0 (b - a).toNat (by omega)
  rwa [show a + ((b - a).toNat : Int) = b by omega] at this
theorem mon_bound {y m : Int} (h0 : 1 ≤ m) (h1 : m ≤ 13) : 0 ≤ mon y m ∧ mon y m ≤ 366 := by
  have a := mon_le (y := y) (a := 1) (b := m) (by omega) h0 h1
  have b := mon_le (y := y) (a := m) (b := 13) h0 h1 (by omega)
  rw [mon_1] at a; rw [mon_13] at b
  have := lp_is y
  omega
theorem good_iff {y m d : Int} : good y m d = true ↔ 1 ≤ y ∧ y ≤ 9999 ∧ 1 ≤ m ∧ m ≤ 12 ∧ 1 ≤ d ∧ d ≤ days y m := by
  unfold good
  rw [decide_eq_true_eq]
  constructor
  · rintro ⟨a, b, c, e⟩
    have : ¬ (m < 1 ∨ 12 < m) := fun h => by rw [days_out h] at e; omega
    omega
  · rintro ⟨a, b, _, _, c, e⟩; exact ⟨a, b, c, e⟩
/-- A day's number lies within its month, which lies within its year. -/
theorem num_in {y m d : Int} (h : good y m d = true) : yrs y + mon y m ≤ num y m d ∧ num y m d < yrs y + mon y (m + 1) ∧ yrs y ≤ num y m d ∧ num y m d < yrs (y + 1) := by
  obtain ⟨_, _, h1, h2, h3, h4⟩ := good_iff.1 h
  have a := mon_step (y := y) h1 h2
  have b := mon_bound (y := y) h1 (by omega)
  have c := mon_le (y := y) (a := m + 1) (b := 13) (by omega) (by omega) (by omega)
  rw [mon_13] at c
  rw [yrs_step]
  unfold num
  omega
theorem num_bound {y m d : Int} (h : good y m d = true) : 0 ≤ num y m d ∧ num y m d < 3652059 := by
  obtain ⟨h0, h1, _⟩ := good_iff.1 h
  have a := num_in h
  have b := yrs_mono (a := 1) (b := y) h0
  have c := yrs_mono (a := y + 1) (b := 10000) (by omega)
  rw [yrs_1] at b; rw [yrs_10000] at c
  omega
def later (y m d y' m' d' : Int) : Prop := y > y' ∨ y = y' ∧ (m > m' ∨ m = m' ∧ d > d')
theorem num_later {y m d y' m' d' : Int} (g : good y m d = true) (g' : good y' m' d' = true) (h : later y m d y' m' d') : num y m d > num y' m' d' := by
  have a := num_in g
  have b := num_in g'
  obtain ⟨_, _, h1, h2, h3, h4⟩ := good_iff.1 g
  obtain ⟨_, _, k1, k2, k3, k4⟩ := good_iff.1 g'
  rcases h with h | ⟨rfl, h | ⟨rfl, h⟩⟩
  · have := yrs_mono (a := y' + 1) (b := y) (by omega); omega
  · have := mon_le (y := y) (a := m' + 1) (b := m) (by omega) (by omega) (by omega); omega
  · unfold num; omega
theorem later_or (y m d y' m' d' : Int) : later y m d y' m' d' ∨ (y = y' ∧ m = m' ∧ d = d') ∨ later y' m' d' y m d := by unfold later; omega
theorem num_later_iff {y m d y' m' d' : Int} (g : good y m d = true) (g' : good y' m' d' = true) : num y m d > num y' m' d' ↔ later y m d y' m' d' := by
  constructor
  · intro h
    rcases later_or y m d y' m' d' with k | ⟨rfl, rfl, rfl⟩ | k
    · exact k
    · omega
    · have := num_later g' g k; omega
  · exact num_later g g'
theorem num_inj {y m d y' m' d' : Int} (g : good y m d = true) (g' : good y' m' d' = true) (h : num y m d = num y' m' d') : y = y' ∧ m = m' ∧ d = d' := by
  rcases later_or y m d y' m' d' with k | k | k
  · have := num_later g g' k; omega
  · exact k
  · have := num_later g' g k; omega

/-! Texts. -/
/-- A digit's byte. -/
def dch (k : Nat) : UInt8 := UInt8.ofNat (48 + k)
/-- A number in so many digits. -/
def pad : Nat → Nat → List UInt8
  | 0, _ => []
  | k + 1, n => pad k (n / 10) ++ [dch (n % 10)]
theorem pad_length : ∀ k n, (pad k n).length = k
  | 0, _ => rfl
  | k + 1, n => by simp [pad, pad_length k]
theorem pad_0 : ∀ k, pad k 0 = Lib.repeatL [48] k
  | 0 => rfl
  | k + 1 => by
    have e := pad_0 k
    have r : ∀ j, Lib.repeatL [(48 : UInt8)] j ++ [48] = 48 :: Lib.repeatL [48] j := by
      intro j
      induction j with
      | zero => rfl
      | succ j ih => simp only [Lib.repeatL, List.cons_append, List.nil_append, ih]
    show pad k (0 / 10) ++ [dch (0 % 10)] = _
    rw [Nat.zero_div, e, show dch (0 % 10) = 48 from rfl, r]
    rfl
theorem pad_dec : ∀ (k u : Nat), Lib.nDigits u ≤ k → Lib.repeatL [48] (k - Lib.nDigits u) ++ Lib.decDigits u = pad k u
  | 0, u, h => by have := Lib.nDigits_pos u; omega
  | k + 1, u, h => by
    by_cases hu : u < 10
    · rw [Lib.nDigits_small hu, Lib.decDigits_one hu]
      show _ = pad k (u / 10) ++ [dch (u % 10)]
      rw [Nat.div_eq_of_lt hu, Nat.mod_eq_of_lt hu, pad_0, Nat.add_sub_cancel]
      rfl
    · rw [Lib.nDigits_big hu] at h
      rw [Lib.nDigits_big hu, Lib.decDigits, dif_neg hu, ← List.append_assoc, Nat.add_sub_add_right, pad_dec k (u / 10) (by omega)]
      rfl
theorem nDigits_le : ∀ (k u : Nat), u < 10 ^ (k + 1) → Lib.nDigits u ≤ k + 1
  | 0, u, h => by rw [Lib.nDigits_small (by simpa using h)]; exact Nat.le_refl _
  | k + 1, u, h => by
    by_cases hu : u < 10
    · rw [Lib.nDigits_small hu]; omega
    · rw [Lib.nDigits_big hu]
      have := nDigits_le k (u / 10) (by rw [Nat.pow_succ] at h; omega)
      omega
theorem pad_4 (n : Nat) : pad 4 n = [dch (n / 1000 % 10), dch (n / 100 % 10), dch (n / 10 % 10), dch (n % 10)] := by
  simp [pad, Nat.div_div_eq_div_mul]
theorem pad_2 (n : Nat) : pad 2 n = [dch (n / 10 % 10), dch (n % 10)] := by
  simp [pad]
def txt (y m d : Int) : List UInt8 := pad 4 y.toNat ++ [45] ++ pad 2 m.toNat ++ [45] ++ pad 2 d.toNat
theorem txt_length (y m d : Int) : (txt y m d).length = 10 := by simp [txt, pad_length]
theorem txt_is (y m d : Int) : txt y m d =
    [dch (y.toNat / 1000 % 10), dch (y.toNat / 100 % 10), dch (y.toNat / 10 % 10), dch (y.toNat % 10), 45,
      dch (m.toNat / 10 % 10), dch (m.toNat % 10), 45, dch (d.toNat / 10 % 10), dch (d.toNat % 10)] := by
  simp [txt, pad_4, pad_2]
theorem dig_toNat {k : Nat} (h : k < 10) : (dch k).toNat = 48 + k := by simp [dch]; omega

/-! What a text tells. -/
/-- A byte that is a digit. -/
def isD (b : UInt8) : Bool := decide (48 ≤ b.toNat ∧ b.toNat ≤ 57)
theorem isD_dig {k : Nat} (h : k < 10) : isD (dch k) = true := by unfold isD; rw [dig_toNat h]; simp; omega
theorem isD_back {b : UInt8} (h : isD b = true) : dch (b.toNat - 48) = b := by
  unfold isD at h
  rw [decide_eq_true_eq] at h
  rw [dch, show 48 + (b.toNat - 48) = b.toNat by omega]
  simp
theorem isD_lt {b : UInt8} (h : isD b = true) : b.toNat - 48 < 10 := by
  unfold isD at h
  rw [decide_eq_true_eq] at h
  omega
/-- What digits come to. -/
def val (l : List UInt8) : Nat := l.foldl (fun n b => 10 * n + (b.toNat - 48)) 0
theorem val_snoc (l : List UInt8) (b : UInt8) : val (l ++ [b]) = 10 * val l + (b.toNat - 48) := by simp [val]
/-- The form of a day's text: digits, and - where it must stand. -/
def formed (l : List UInt8) : Bool := decide (l.length = 10) && (decide (l.getD 4 0 = 45) && decide (l.getD 7 0 = 45)) && ((l.take 4).all isD && (((l.drop 5).take 2).all isD && (l.drop 8).all isD))
def yearOf (l : List UInt8) : Int := val (l.take 4)
def monthOf (l : List UInt8) : Int := val ((l.drop 5).take 2)
def dayOf (l : List UInt8) : Int := val (l.drop 8)
def reads (l : List UInt8) : Bool := formed l && good (yearOf l) (monthOf l) (dayOf l)
theorem ten {l : List UInt8} (h : l.length = 10) : ∃ a b c d e f g i j k, l = [a, b, c, d, e, f, g, i, j, k] := by
  rcases l with _ | ⟨a, _ | ⟨b, _ | ⟨c, _ | ⟨d, _ | ⟨e, _ | ⟨f, _ | ⟨g, _ | ⟨i, _ | ⟨j, _ | ⟨k, _ | ⟨x, t⟩⟩⟩⟩⟩⟩⟩⟩⟩⟩⟩
  all_goals simp at h
  exact ⟨a, b, c, d, e, f, g, i, j, k, rfl⟩
theorem shape_txt (y m d : Int) : formed (txt y m d) = true := by
  have h : ∀ n, n % 10 < 10 := fun n => Nat.mod_lt _ (by decide)
  rw [txt_is]
  simp [formed, isD_dig, h]
theorem of_txt {y m d : Int} (hy : 0 ≤ y) (hy1 : y ≤ 9999) (hm : 0 ≤ m) (hm1 : m ≤ 99) (hd : 0 ≤ d) (hd1 : d ≤ 99) : yearOf (txt y m d) = y ∧ monthOf (txt y m d) = m ∧ dayOf (txt y m d) = d := by
  have h : ∀ n, n % 10 < 10 := fun n => Nat.mod_lt _ (by decide)
  rw [txt_is]
  simp only [yearOf, monthOf, dayOf, List.take, List.drop, val, List.foldl, dig_toNat (h _)]
  omega
theorem good_small {y m d : Int} (g : good y m d = true) : 0 ≤ y ∧ y ≤ 9999 ∧ 0 ≤ m ∧ m ≤ 99 ∧ 0 ≤ d ∧ d ≤ 99 := by
  obtain ⟨h0, h1, h2, h3, h4, h5⟩ := good_iff.1 g
  have := days_bound y m
  omega
theorem reads_txt {y m d : Int} (g : good y m d = true) : reads (txt y m d) = true := by
  obtain ⟨h0, h1, h2, h3, h4, h5⟩ := good_small g
  obtain ⟨a, b, c⟩ := of_txt h0 h1 h2 h3 h4 h5
  unfold reads
  rw [a, b, c, g, shape_txt]
  rfl
/-- What reads as a day is that day's text. -/
theorem txt_of {l : List UInt8} (h : formed l = true) : txt (yearOf l) (monthOf l) (dayOf l) = l := by
  have hl : l.length = 10 := by
    unfold formed at h
    simp only [Bool.and_eq_true, decide_eq_true_eq] at h
    exact h.1.1
  obtain ⟨a, b, c, d, e, f, g, i, j, k, rfl⟩ := ten hl
  simp [formed] at h
  obtain ⟨⟨rfl, rfl⟩, ⟨ha, hb, hc, hd⟩, ⟨hf, hg⟩, hj, hk⟩ := h
  rw [txt_is]
  have e1 := isD_back ha; have e2 := isD_back hb; have e3 := isD_back hc; have e4 := isD_back hd
  have e5 := isD_back hf; have e6 := isD_back hg; have e7 := isD_back hj; have e8 := isD_back hk
  have l1 := isD_lt ha; have l2 := isD_lt hb; have l3 := isD_lt hc; have l4 := isD_lt hd
  have l5 := isD_lt hf; have l6 := isD_lt hg; have l7 := isD_lt hj; have l8 := isD_lt hk
  generalize a.toNat - 48 = a' at *
  generalize b.toNat - 48 = b' at *
  generalize c.toNat - 48 = c' at *
  generalize d.toNat - 48 = d' at *
  generalize f.toNat - 48 = f' at *
  generalize g.toNat - 48 = g' at *
  generalize j.toNat - 48 = j' at *
  generalize k.toNat - 48 = k' at *
  subst e1 e2 e3 e4 e5 e6 e7 e8
  simp only [yearOf, monthOf, dayOf, List.take, List.drop, val, List.foldl, dig_toNat l1, dig_toNat l2, dig_toNat l3, dig_toNat l4, dig_toNat l5, dig_toNat l6, dig_toNat l7, dig_toNat l8, Int.toNat_natCast]
  simp only [List.cons.injEq, and_true, true_and]
  refine ⟨congrArg dch ?_, congrArg dch ?_, congrArg dch ?_, congrArg dch ?_, congrArg dch ?_, congrArg dch ?_, congrArg dch ?_, congrArg dch ?_⟩ <;> omega
end Go.Proofs.Ytcigholifpmdjaa.P

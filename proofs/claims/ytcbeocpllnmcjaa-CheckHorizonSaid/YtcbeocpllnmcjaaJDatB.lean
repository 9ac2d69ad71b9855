/- Days of the calendar as plain arithmetic: no program is named here. -/
import Derived.Test.YtcbeocpllnmcjaaJPureS
import Derived.Lib.Itoa
import Derived.Lib.ItoaNum
import Derived.Lib.Repeat
import Derived.WalkSmall
import Derived.WalkKit
import Derived.BigQuiet
import Derived.Lib.QuietBelow
namespace Go.Proofs.Ytcbeocpllnmcjaa.P
open Go.RowKit
def leap (y : Int) : Bool := decide (y % 4 = 0 ∧ (y % 100 ≠ 0 ∨ y % 400 = 0))
/-- One where the year is a leap year. -/
def lp (y : Int) : Int := if leap y then 1 else 0
def days (y m : Int) : Int :=
  if m < 1 ∨ 12 < m then 0 else if m = 4 ∨ m = 6 ∨ m = 9 ∨ m = 11 then 30 else if m = 2 then 28 + lp y else 31
def good (y m d : Int) : Bool := decide (1 ≤ y ∧ y ≤ 9999 ∧ 1 ≤ d ∧ d ≤ days y m)
/-- How many days lie ahead of a year. -/
def yrs (y : Int) : Int := 365 * (y - 1) + (y - 1) / 4 - (y - 1) / 100 + (y - 1) / 400
/-- How many days of its year lie ahead of a month. -/
def mon (y m : Int) : Int :=
  if m ≤ 1 then 0 else if m = 2 then 31 else lp y +
    (if m = 3 then 59 else if m = 4 then 90 else if m = 5 then 120 else if m = 6 then 151 else if m = 7 then 181 else if m = 8 then 212
      else if m = 9 then 243 else if m = 10 then 273 else if m = 11 then 304 else if m = 12 then 334 else 365)
def num (y m d : Int) : Int := yrs y + mon y m + d - 1
theorem lp_is (y : Int) : lp y = 0 ∨ lp y = 1 := by unfold lp; split <;> simp
theorem lp_yes {y : Int} (h : leap y = true) : lp y = 1 := by unfold lp; rw [if_pos h]
theorem lp_no {y : Int} (h : leap y = false) : lp y = 0 := by unfold lp; rw [h]; rfl
theorem yrs_step (y : Int) : yrs (y + 1) = yrs y + 365 + lp y := by
  unfold yrs lp leap
  simp only [decide_eq_true_eq]
  split <;> omega
theorem yrs_mono {a b : Int} (h : a ≤ b) : yrs a ≤ yrs b := by unfold yrs; omega
theorem yrs_1 : yrs 1 = 0 := by unfold yrs; omega
theorem yrs_10000 : yrs 10000 = 3652059 := by unfold yrs; omega
theorem yrs_bound {y : Int} (h0 : 1 ≤ y) (h1 : y ≤ 10001) : 0 ≤ yrs y ∧ yrs y ≤ 3652425 := by unfold yrs; omega
theorem mon_step {y m : Int} (h0 : 1 ≤ m) (h1 : m ≤ 12) : mon y (m + 1) = mon y m + days y m := by
  have hl := lp_is y
  unfold mon days
  obtain rfl | rfl | rfl | rfl | rfl | rfl | rfl | rfl | rfl | rfl | rfl | rfl : m = 1 ∨ m = 2 ∨ m = 3 ∨ m = 4 ∨ m = 5 ∨ m = 6 ∨ m = 7 ∨ m = 8 ∨ m = 9 ∨ m = 10 ∨ m = 11 ∨ m = 12 := by omega
  all_goals (simp <;> omega)
theorem mon_1 (y : Int) : mon y 1 = 0 := by unfold mon; simp
theorem mon_13 (y : Int) : mon y 13 = 365 + lp y := by unfold mon; simp; omega
theorem days_in {y m : Int} (h0 : 1 ≤ m) (h1 : m ≤ 12) : 28 ≤ days y m ∧ days y m ≤ 31 := by
  have hl := lp_is y
  unfold days
  split
  · omega
  · split
    · omega
    · split <;> omega
theorem days_out {y m : Int} (h : m < 1 ∨ 12 < m) : days y m = 0 := by unfold days; rw [if_pos h]
theorem days_bound (y m : Int) : 0 ≤ days y m ∧ days y m ≤ 31 := by
  by_cases h : m < 1 ∨ 12 < m
  · rw [days_out h]; omega
  · have := days_in (y := y) (m := m) (by omega) (by omega); omega
theorem mon_mono {y a : Int} (h0 : 1 ≤ a) : ∀ (k : Nat), a + k ≤ 13 → mon y a ≤ mon y (a + k)
  | 0, _ => by simp
  | k + 1, h => by
    have h1 := mon_mono (y := y) h0 k (by omega)
    have h2 := mon_step (y := y) (m := a + k) (by omega) (by omega)
    have h3 := days_bound y (a + k)
    rw [show a + ((k + 1 : Nat) : Int) = a + k + 1 by omega]
    omega
theorem mon_le {y a b : Int} (h0 : 1 ≤ a) (h : a ≤ b) (h1 : b ≤ 13) : mon y a ≤ mon y b := by
  have := mon_mono (y := y) h0 (b - a).toNat (by omega)
  rwa [show a + ((b - a).toNat : Int) = b by omega] at this
theorem mon_bound {y m : Int} (h0 : 1 ≤ m) (h1 : m ≤ 13) : 0 ≤ mon y m ∧ mon y m ≤ 366 := by
  have a := mon_le (y := y) (a := 1) (b := m) (by omega) h0 h1
  have b := mon_le (y := y) (a := m) (b := 13) h0 h1 (by omega)
  rw [mon_1] at a; rw [mon_13] at b
  have := lp_is y
  omega
theorem good_iff {y m d : Int} : good y m d = true ↔ 1 ≤ y ∧ y ≤ 9999 ∧ 1 ≤ m ∧ m ≤ 12 ∧ 1 ≤ d ∧ d ≤ days y m := by
  unfold good
  rw [decide_eq_true_eq]
  constructor
  · rintro ⟨a, b, c, e⟩
    have : ¬ (m < 1 ∨ 12 < m) := fun h => by rw [days_out h] at e; omega
    omega
  · rintro ⟨a, b, _, _, c, e⟩; exact ⟨a, b, c, e⟩
/-- A day's number lies within its month, which lies within its year. -/
theorem num_in {y m d : Int} (h : good y m d = true) : yrs y + mon y m ≤ num y m d ∧ num y m d < yrs y + mon y (m + 1) ∧ yrs y ≤ num y m d ∧ num y m d < yrs (y + 1) := by
  obtain ⟨_, _, h1, h2, h3, h4⟩ := good_iff.1 h
  have a := mon_step (y := y) h1 h2
  have b := mon_bound (y := y) h1 (by omega)
  have c := mon_le (y := y) (a := m + 1) (b := 13) (by omega) (by omega) (by omega)
  rw [mon_13] at c
  rw [yrs_step]
  unfold num
  omega
theorem num_bound {y m d : Int} (h : good y m d = true) : 0 ≤ num y m d ∧ num y m d < 3652059 := by
  obtain ⟨h0, h1, _⟩ := good_iff.1 h
  have a := num_in h
  have b := yrs_mono (a := 1) (b := y) h0
  have c := yrs_mono (a := y + 1) (b := 10000) (by omega)
  rw [yrs_1] at b; rw [yrs_10000] at c
  omega
def later (y m d y' m' d' : Int) : Prop := y > y' ∨ y = y' ∧ (m > m' ∨ m = m' ∧ d > d')
theorem num_later {y m d y' m' d' : Int} (g : good y m d = true) (g' : good y' m' d' = true) (h : later y m d y' m' d') : num y m d > num y' m' d' := by
  have a := num_in g
  have b := num_in g'
  obtain ⟨_, _, h1, h2, h3, h4⟩ := good_iff.1 g
  obtain ⟨_, _, k1, k2, k3, k4⟩ := good_iff.1 g'
  rcases h with h | ⟨rfl, h | ⟨rfl, h⟩⟩
  · have := yrs_mono (a := y' + 1) (b := y) (by omega); omega
  · have := mon_le (y := y) (a := m' + 1) (b := m) (by omega) (by omega) (by omega); omega
  · unfold num; omega
theorem later_or (y m d y' m' d' : Int) : later y m d y' m' d' ∨ (y = y' ∧ m = m' ∧ d = d') ∨ later y' m' d' y m d := by unfold later; omega
theorem num_inj {y m d y' m' d' : Int} (g : good y m d = true) (g' : good y' m' d' = true) (h : num y m d = num y' m' d') : y = y' ∧ m = m' ∧ d = d' := by
  rcases later_or y m d y' m' d' with k | k | k
  · have := num_later g g' k; omega
  · exact k
  · have := num_later g' g k; omega
/-- A digit's byte. -/
def dch (k : Nat) : UInt8 := UInt8.ofNat (48 + k)
/-- A number in so many digits. -/
def pad : Nat → Nat → List UInt8
  | 0, _ => []
  | k + 1, n => pad k (n / 10) ++ [dch (n % 10)]
theorem pad_length : ∀ k n, (pad k n).length = k
  | 0, _ => rfl
  | k + 1, n => by simp [pad, pad_length k]
theorem pad_4 (n : Nat) : pad 4 n = [dch (n / 1000 % 10), dch (n / 100 % 10), dch (n / 10 % 10), dch (n % 10)] := by
  simp [pad, Nat.div_div_eq_div_mul]
theorem pad_2 (n : Nat) : pad 2 n = [dch (n / 10 % 10), dch (n % 10)] := by
  simp [pad]
def txt (y m d : Int) : List UInt8 := pad 4 y.toNat ++ [45] ++ pad 2 m.toNat ++ [45] ++ pad 2 d.toNat
theorem txt_length (y m d : Int) : (txt y m d).length = 10 := by simp [txt, pad_length]
theorem txt_is (y m d : Int) : txt y m d =
    [dch (y.toNat / 1000 % 10), dch (y.toNat / 100 % 10), dch (y.toNat / 10 % 10), dch (y.toNat % 10), 45,
      dch (m.toNat / 10 % 10), dch (m.toNat % 10), 45, dch (d.toNat / 10 % 10), dch (d.toNat % 10)] := by
  simp [txt, pad_4, pad_2]
theorem dig_toNat {k : Nat} (h : k < 10) : (dch k).toNat = 48 + k := by simp [dch]; omega
/-- A byte that is a digit. -/
def isD (b : UInt8) : Bool := decide (48 ≤ b.toNat ∧ b.toNat ≤ 57)
theorem isD_dig {k : Nat} (h : k < 10) : isD (dch k) = true := by unfold isD; rw [dig_toNat h]; simp; omega
theorem isD_lt {b : UInt8} (h : isD b = true) : b.toNat - 48 < 10 := by
  unfold isD at h
  rw [decide_eq_true_eq] at h
  omega
/-- What digits come to. -/
def val (l : List UInt8) : Nat := l.foldl (fun n b => 10 * n + (b.toNat - 48)) 0
/-- The form of a day's text: digits, and - where it must stand. -/
def formed (l : List UInt8) : Bool := decide (l.length = 10) && (decide (l.getD 4 0 = 45) && decide (l.getD 7 0 = 45)) && ((l.take 4).all isD && (((l.drop 5).take 2).all isD && (l.drop 8).all isD))
def yearOf (l : List UInt8) : Int := val (l.take 4)
def monthOf (l : List UInt8) : Int := val ((l.drop 5).take 2)
def dayOf (l : List UInt8) : Int := val (l.drop 8)
def reads (l : List UInt8) : Bool := formed l && good (yearOf l) (monthOf l) (dayOf l)
theorem ten {l : List UInt8} (h : l.length = 10) : ∃ a b c d e f g i j k, l = [a, b, c, d, e, f, g, i, j, k] := by
  rcases l with _ | ⟨a, _ | ⟨b, _ | ⟨c, _ | ⟨d, _ | ⟨e, _ | ⟨f, _ | ⟨g, _ | ⟨i, _ | ⟨j, _ | ⟨k, _ | ⟨x, t⟩⟩⟩⟩⟩⟩⟩⟩⟩⟩⟩
  all_goals simp at h
  exact ⟨a, b, c, d, e, f, g, i, j, k, rfl⟩
theorem shape_txt (y m d : Int) : formed (txt y m d) = true := by
  have h : ∀ n, n % 10 < 10 := fun n => Nat.mod_lt _ (by decide)
  rw [txt_is]
  simp [formed, isD_dig, h]
theorem of_txt {y m d : Int} (hy : 0 ≤ y) (hy1 : y ≤ 9999) (hm : 0 ≤ m) (hm1 : m ≤ 99) (hd : 0 ≤ d) (hd1 : d ≤ 99) : yearOf (txt y m d) = y ∧ monthOf (txt y m d) = m ∧ dayOf (txt y m d) = d := by
  have h : ∀ n, n % 10 < 10 := fun n => Nat.mod_lt _ (by decide)
  rw [txt_is]
  simp only [yearOf, monthOf, dayOf, List.take, List.drop, val, List.foldl, dig_toNat (h _)]
  omega
theorem good_small {y m d : Int} (g : good y m d = true) : 0 ≤ y ∧ y ≤ 9999 ∧ 0 ≤ m ∧ m ≤ 99 ∧ 0 ≤ d ∧ d ≤ 99 := by
  obtain ⟨h0, h1, h2, h3, h4, h5⟩ := good_iff.1 g
  have := days_bound y m
  omega
theorem reads_txt {y m d : Int} (g : good y m d = true) : reads (txt y m d) = true := by
  obtain ⟨h0, h1, h2, h3, h4, h5⟩ := good_small g
  obtain ⟨a, b, c⟩ := of_txt h0 h1 h2 h3 h4 h5
  unfold reads
  rw [a, b, c, g, shape_txt]
  rfl
end Go.Proofs.Ytcbeocpllnmcjaa.P
/- What is wrong with a plan, and its bound, as plain arithmetic (layer 9): no program is named here. -/
namespace Go.Proofs.Ytcbeocpllnmcjaa.P
open Go.RowKit Mm
def dn (d : Day) : Int := num d.y d.m d.d
/-- Where a meter of that name stands. -/
def meterIx (ms : List Meter) (name : ByteArray) : Option Nat := ms.findIdx? fun m => m.name.data.toList == name.data.toList
def winIn (p : Plan) (w : Win) : Bool := !w.has || (decide (dn w.a ≤ dn w.b) && decide (dn p.a ≤ dn w.a) && decide (dn w.b ≤ dn p.b))
/-- Whether the tiers rise, but the last one; behind one that told `u`. -/
def risesB : Int → List Tier → Bool
  | _, [] => true
  | _, [_] => true
  | u, t :: r => decide (1 ≤ t.upto) && decide (u < t.upto) && risesB t.upto r
def chE (p : Plan) (i : Nat) (c : Charge) : Int :=
  if 8 ≤ i then 6 else if meterIx p.meters c.meter = none ∨ winIn p c.win = false ∨ c.block = 0 then 5 else if 8 < c.tiers.length then 6 else if risesB 0 c.tiers = false then 5 else if 6 < c.adjusts.length then 6 else 0
def maxBound : Int := 1152921504606846976
/-- The least multiple of a block that isn't below. -/
def qty (mx al bl : Int) : Int := if mx - al ≤ 0 then 0 else (mx - al + bl - 1) / bl * bl
def topRate (ts : List Tier) : Int := ts.foldl (fun r t => max r t.rate) 0
def lim (n : Int) (ok : Bool) : Option Int := if ok = true ∧ n < maxBound then some n else none
def adjStep (n : Int) (a : Adj) : Option Int :=
  if a.kind = 1 then lim (mdn (n * a.num) 100000 1) (mdb (n * a.num) 100000 1) else if a.kind = 2 then lim (if a.num < n then a.num else n) true
  else if a.kind = 3 then lim (if n < a.num then a.num else n) true else if a.kind = 4 then lim (cut64 (n + a.num)) (ok64 (n + a.num)) else lim n true
def adjAll : Int → List Adj → Option Int
  | n, [] => some n
  | n, a :: r => (adjStep n a).bind fun m => adjAll m r
def mostOf (c : Charge) (mx : Int) : Option Int :=
  (lim (mdn (topRate c.tiers * qty mx c.allowance c.block) 1000000 1) (mdb (topRate c.tiers * qty mx c.allowance c.block) 1000000 1)).bind fun n => adjAll n c.adjusts
/-- What all charges come to at most, one by one; of one whose meter isn't told: nothing. -/
def mosts (ms : List Meter) : List Charge → Option (List Int)
  | [] => some []
  | c :: r => match meterIx ms c.meter with
    | none => mosts ms r
    | some i => (mostOf c (ms.getD i default).max).bind fun x => (mosts ms r).map (x :: ·)
def sumUp : Int → List Int → Option Int
  | n, [] => some n
  | n, x :: r => if maxBound ≤ x ∨ maxBound ≤ n + x then none else sumUp (n + x) r
def boundOf (p : Plan) : Option Int := (mosts p.meters p.charges).bind fun l => sumUp 0 (p.fees.map (·.amount) ++ l)
/-- The first that is wrong of some rows, from a place on. -/
def firstE {α : Type} (f : Nat → α → Int) (place : α → Int × Int) : Nat → List α → Option (Int × Int × Int)
  | _, [] => none
  | i, x :: r => if f i x = 0 then firstE f place (i + 1) r else some (f i x, (place x).1, (place x).2)
def meterE (p : Plan) (i : Nat) (m : Meter) : Int := if 4 ≤ i then 6 else if meterIx p.meters m.name = some i then 0 else 5
def feeE (p : Plan) (i : Nat) (f : Fee) : Int := if 8 ≤ i then 6 else if winIn p f.win = true then 0 else 5
def hzn (p : Plan) : Int := dn p.b - dn p.a + 1
def headE (p : Plan) : Int := if hzn p < 1 then 5 else if 4000 < hzn p then 6 else 0
/-- What is wrong first, and its place. -/
def wrongOf (p : Plan) : Int × Int × Int :=
  if headE p = 0 then
    match firstE (meterE p) (fun m => (m.line, m.col)) 0 p.meters with
    | some e => e
    | none => match firstE (feeE p) (fun f => (f.line, f.col)) 0 p.fees with
      | some e => e
      | none => match firstE (chE p) (fun c => (c.line, c.col)) 0 p.charges with
        | some e => e
        | none => if boundOf p = none then (6, p.line, p.col) else (0, 0, 0)
  else (headE p, p.line, p.col)
theorem firstE_none {α : Type} {f : Nat → α → Int} {pl : α → Int × Int} : ∀ {i : Nat} {l : List α}, firstE f pl i l = none ↔ ∀ j x, l[j]? = some x → f (i + j) x = 0
  | i, [] => by simp [firstE]
  | i, x :: r => by
    unfold firstE
    by_cases h : f i x = 0
    · rw [if_pos h, firstE_none]
      constructor
      · intro g j y hj
        cases j with
        | zero =>
          obtain rfl : x = y := by simpa using hj
          exact h
        | succ j =>
          have := g j y (by simpa using hj)
          rwa [show i + (j + 1) = i + 1 + j by omega]
      · intro g j y hj
        have := g (j + 1) y (by simpa using hj)
        rwa [show i + (j + 1) = i + 1 + j by omega] at this
    · rw [if_neg h]
      constructor
      · intro g; cases g
      · intro g
        exact absurd (g 0 x rfl) h
theorem wrongOf_zero {p : Plan} : (wrongOf p).1 = 0 ↔ headE p = 0 ∧ firstE (meterE p) (fun m => (m.line, m.col)) 0 p.meters = none ∧ firstE (feeE p) (fun f => (f.line, f.col)) 0 p.fees = none ∧ firstE (chE p) (fun c => (c.line, c.col)) 0 p.charges = none ∧ boundOf p ≠ none := by
  have some_ne : ∀ {α : Type} {f : Nat → α → Int} {pl : α → Int × Int} {l : List α} {i : Nat} {e : Int × Int × Int}, firstE f pl i l = some e → e.1 ≠ 0 := by
    intro α f pl l
    induction l with
    | nil => intro i e h; cases h
    | cons x r ih =>
      intro i e h
      unfold firstE at h
      by_cases hx : f i x = 0
      · rw [if_pos hx] at h; exact ih h
      · rw [if_neg hx] at h
        obtain rfl := Option.some.inj h
        exact hx
  unfold wrongOf
  by_cases h0 : headE p = 0
  · rw [if_pos h0]
    split
    · rename_i e he
      have := some_ne he
      simp [he, this]
    · rename_i he
      split
      · rename_i e hf
        have := some_ne hf
        simp [hf, this]
      · rename_i hf
        split
        · rename_i e hc
          have := some_ne hc
          simp [hc, this]
        · rename_i hc
          by_cases hb : boundOf p = none
          · rw [if_pos hb]; simp [hb]
          · rw [if_neg hb]; simp [h0, he, hf, hc, hb]
  · rw [if_neg h0]; simp [h0]
/-- What a plan's numbers are, that a text tells: none is below 0. -/
structure NoNeg (p : Plan) : Prop where
  fees : ∀ f ∈ p.fees, 0 ≤ f.amount
  rates : ∀ c ∈ p.charges, ∀ t ∈ c.tiers, 0 ≤ t.rate
  adjs : ∀ c ∈ p.charges, ∀ a ∈ c.adjusts, 0 ≤ a.num
  blocks : ∀ c ∈ p.charges, 0 ≤ c.block
theorem topRate_nn (ts : List Tier) : 0 ≤ topRate ts := by
  have : ∀ (ts : List Tier) (r : Int), 0 ≤ r → 0 ≤ ts.foldl (fun r t => max r t.rate) r := by
    intro ts
    induction ts with
    | nil => intro r h; exact h
    | cons t q ih => intro r h; exact ih _ (by show 0 ≤ max r t.rate; omega)
  exact this ts 0 (Int.le_refl _)
theorem qty_nn {mx al bl : Int} (h : 0 ≤ bl) : 0 ≤ qty mx al bl := by
  unfold qty
  split
  · exact Int.le_refl _
  · rename_i h1
    exact Int.mul_nonneg (Int.ediv_nonneg (by omega) h) h
theorem mdn_nn {p c : Int} (h : 0 ≤ p) (hc : 0 < c) (hb : mdb p c 1 = true) : 0 ≤ mdn p c 1 := by
  obtain ⟨_, _, _, e⟩ := mdb_true hb
  rw [e]
  have := (rnd_ge p c 1).1
  have := Int.ediv_nonneg h (by omega : 0 ≤ c)
  omega
theorem lim_some {n k : Int} {b : Bool} (h : lim n b = some k) : b = true ∧ n < maxBound ∧ n = k := by
  unfold lim at h
  split at h
  · rename_i g
    exact ⟨g.1, g.2, Option.some.inj h⟩
  · cases h
theorem adjStep_nn {n k : Int} {a : Adj} (hn : 0 ≤ n) (ha : 0 ≤ a.num) (h : adjStep n a = some k) : 0 ≤ k := by
  unfold adjStep at h
  split at h
  · obtain ⟨b, _, rfl⟩ := lim_some h
    exact mdn_nn (Int.mul_nonneg hn ha) (by decide) b
  · split at h
    · obtain ⟨_, _, rfl⟩ := lim_some h
      split <;> omega
    · split at h
      · obtain ⟨_, _, rfl⟩ := lim_some h
        split <;> omega
      · split at h
        · obtain ⟨b, _, rfl⟩ := lim_some h
          rw [ok64_iff] at b
          rw [cut64_t b]
          omega
        · obtain ⟨_, _, rfl⟩ := lim_some h
          exact hn
theorem adjAll_nn : ∀ {l : List Adj} {n k : Int}, 0 ≤ n → (∀ a ∈ l, 0 ≤ a.num) → adjAll n l = some k → 0 ≤ k
  | [], n, k, hn, _, e => by
    unfold adjAll at e
    obtain rfl := Option.some.inj e
    exact hn
  | a :: r, n, k, hn, h, e => by
    unfold adjAll at e
    obtain ⟨m, hm, e2⟩ := Option.bind_eq_some_iff.1 e
    exact adjAll_nn (adjStep_nn hn (h a (List.mem_cons_self ..)) hm) (fun b hb => h b (List.mem_cons_of_mem _ hb)) e2
theorem mostOf_nn {c : Charge} {mx k : Int} (ha : ∀ a ∈ c.adjusts, 0 ≤ a.num) (hb : 0 ≤ c.block) (h : mostOf c mx = some k) : 0 ≤ k := by
  unfold mostOf at h
  obtain ⟨n, hn, e⟩ := Option.bind_eq_some_iff.1 h
  obtain ⟨b, _, rfl⟩ := lim_some hn
  exact adjAll_nn (mdn_nn (Int.mul_nonneg (topRate_nn _) (qty_nn hb)) (by decide) b) ha e
end Go.Proofs.Ytcbeocpllnmcjaa.P
/- What is wrong with a plan, and its bound (layer 9): one step of a loop after the other. No program is named here. -/
namespace Go.Proofs.Ytcbeocpllnmcjaa.P
open Go.RowKit Mm
theorem drop_at {α : Type} {l : List α} {i : Nat} {x : α} (h : l[i]? = some x) : l.drop i = x :: l.drop (i + 1) := by
  obtain ⟨hi, rfl⟩ := List.getElem?_eq_some_iff.1 h
  exact List.drop_eq_getElem_cons hi
theorem rises_stop {l : List Tier} {u : Int} {i : Nat} (h : l.length ≤ i + 1) : risesB u (l.drop i) = true := by
  have : (l.drop i).length ≤ 1 := by rw [List.length_drop]; omega
  cases hd : l.drop i with
  | nil => rfl
  | cons t r =>
    rw [hd] at this
    cases r with
    | nil => rfl
    | cons _ _ => simp at this
theorem rises_step {l : List Tier} {u : Int} {i : Nat} {t : Tier} (h : l[i]? = some t) (hi : i + 1 < l.length) : risesB u (l.drop i) = (decide (1 ≤ t.upto) && decide (u < t.upto) && risesB t.upto (l.drop (i + 1))) := by
  obtain ⟨t', h'⟩ : ∃ t', l[i + 1]? = some t' := ⟨_, List.getElem?_eq_getElem hi⟩
  rw [drop_at h, drop_at h']
  rfl
theorem firstE_step {α : Type} {f : Nat → α → Int} {pl : α → Int × Int} {l : List α} {i : Nat} {x : α} (h : l[i]? = some x) : firstE f pl i (l.drop i) = if f i x = 0 then firstE f pl (i + 1) (l.drop (i + 1)) else some (f i x, (pl x).1, (pl x).2) := by
  rw [drop_at h]
  rfl
theorem firstE_end {α : Type} {f : Nat → α → Int} {pl : α → Int × Int} {l : List α} {i : Nat} (h : l.length ≤ i) : firstE f pl i (l.drop i) = none := by
  rw [List.drop_of_length_le h]
  rfl
theorem adjAll_step {l : List Adj} {i : Nat} {a : Adj} {n : Int} (h : l[i]? = some a) : adjAll n (l.drop i) = (adjStep n a).bind fun m => adjAll m (l.drop (i + 1)) := by
  rw [drop_at h]
  rfl
theorem topRate_step {l : List Tier} {i : Nat} {t : Tier} (h : l[i]? = some t) : topRate (l.take (i + 1)) = max (topRate (l.take i)) t.rate := by
  unfold topRate
  rw [List.take_add_one, h, List.foldl_append]
  rfl
theorem mosts_some {ms : List Meter} {cs : List Charge} {i k : Nat} {c : Charge} (h : cs[i]? = some c) (e : meterIx ms c.meter = some k) : mosts ms (cs.drop i) = (mostOf c (ms.getD k default).max).bind fun x => (mosts ms (cs.drop (i + 1))).map (x :: ·) := by
  rw [drop_at h]
  conv => lhs; unfold mosts
  rw [e]
theorem mosts_end {ms : List Meter} {cs : List Charge} {i : Nat} (h : cs.length ≤ i) : mosts ms (cs.drop i) = some [] := by
  rw [List.drop_of_length_le h]
  rfl
/-- The least multiple, counted upwards. -/
theorem qty_count {mx al bl : Int} {k : Nat} (hb : 0 < bl) (h1 : mx - al ≤ k * bl) (h2 : k = 0 ∨ (k : Int) * bl - bl < mx - al) : qty mx al bl = k * bl := by
  unfold qty
  rcases h2 with rfl | h2
  · rw [if_pos (by simpa using h1)]
    simp
  · by_cases h3 : mx - al ≤ 0
    · rw [if_pos h3]
      cases k with
      | zero => simp
      | succ k =>
        exfalso
        have : 0 ≤ (k : Int) * bl := Int.mul_nonneg (Int.natCast_nonneg k) (by omega)
        have e : ((k + 1 : Nat) : Int) * bl = (k : Int) * bl + bl := by rw [Int.natCast_succ, Int.add_mul, Int.one_mul]
        omega
    · rw [if_neg h3]
      congr 1
      have e : (mx - al + bl - 1) / bl = k := by
        rw [Int.ediv_eq_iff_of_pos hb]
        constructor <;> omega
      exact e
end Go.Proofs.Ytcbeocpllnmcjaa.P
/- What the walks of layers 3 and later share: answers, boxes, strings. No function of the program is named here. -/
namespace Go.Proofs.Ytcbeocpllnmcjaa.P
open Go.RowKit
theorem bel_drewN {B : Nat} {a w : World} (h : Below B a w) (n : Nat) : Below B a (w.drewN n) := ⟨h.os, h.tape, h.output, h.size, h.block⟩
/-- A block of three cells, behind calls that leave it alone. -/
theorem box3 {w w1 : World} {a b c : Value} {t : TypeId} (h : Below (w.alloc (.cells #[a, b, c] t)).heap.size (w.alloc (.cells #[a, b, c] t)) w1) :
    w1.cell? ⟨w.heap.size, 0, none⟩ = some a ∧ w1.cell? ⟨w.heap.size, 1, none⟩ = some b ∧ w1.cell? ⟨w.heap.size, 2, none⟩ = some c ∧ w.heap.size < w1.heap.size ∧ Below w.heap.size w w1 := by
  have e : (w.alloc (.cells #[a, b, c] t)).heap.size = w.heap.size + 1 := by simp
  have k := h
  rw [e] at h
  have hs := h.size
  rw [e] at hs
  refine ⟨?_, ?_, ?_, hs, ((Below.refl _ _).alloc (Nat.le_refl _) _).trans (k.mono (by rw [e]; omega))⟩
  all_goals
    rw [h.cell (Nat.lt_succ_self _), World.cell?_alloc_new]
    rfl
theorem tm0 (y k : Int) : y.tmod k = 0 ↔ y % k = 0 := by rw [← Int.dvd_iff_tmod_eq_zero, ← Int.dvd_iff_emod_eq_zero]
theorem tmb (y k : Int) : (y.tmod k == 0) = decide (y % k = 0) := by rw [Bool.eq_iff_iff]; simp [tm0]
theorem ret_b {a b : Bool} (h : a = b) : Ending.returned (.bool a) = Ending.returned (.bool b) := by rw [h]
theorem ret_2 {a a' b b' : Value} (h : a = a') (k : b = b') : Ending.returned (.tuple #[a, b]) = Ending.returned (.tuple #[a', b']) := by rw [h, k]
theorem vi {a b : Int} (h : a = b) : Value.int .i64 a = Value.int .i64 b := by rw [h]
theorem ret_i {a b : Int} (h : a = b) : Ending.returned (.int .i64 a) = Ending.returned (.int .i64 b) := by rw [h]
/-- A day as the program holds it. -/
def dv (y m d : Int) : Value := .agg #[.int .i64 y, .int .i64 m, .int .i64 d]
theorem ba_append (a b : List UInt8) : (⟨a.toArray⟩ : ByteArray) ++ ⟨b.toArray⟩ = ⟨(a ++ b).toArray⟩ := by
  apply ByteArray.ext
  simp
theorem ba_size (l : List UInt8) : (⟨l.toArray⟩ : ByteArray).size = l.length := by
  show l.toArray.size = _
  simp
theorem ret_s {a b : ByteArray} (h : a = b) : Ending.returned (.string a) = Ending.returned (.string b) := by rw [h]
theorem at_byte (s : ByteArray) (i : Nat) (h : i < s.size) : s.data.toList[i]'(by simpa using h) = s[i]'h := by
  rw [Array.getElem_toList]
  rfl
end Go.Proofs.Ytcbeocpllnmcjaa.P

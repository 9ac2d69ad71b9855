/- Days of the calendar as plain arithmetic: no program is named here. -/
import Derived.Test.YtjgogpaedaffkaaGreatJPureS
import Derived.Lib.Itoa
import Derived.Lib.ItoaNum
import Derived.Lib.Repeat
namespace Go.Proofs.YtjgogpaedaffkaaGreat.Mm
end Go.Proofs.YtjgogpaedaffkaaGreat.Mm
namespace Go.Proofs.YtjgogpaedaffkaaGreat.P
open Go.RowKit
def leap (y : Int) : Bool := decide (y % 4 = 0 ∧ (y % 100 ≠ 0 ∨ y % 400 = 0))
/-- One where the year is a leap year. -/
def lp (y : Int) : Int := if leap y then 1 else 0
def days (y m : Int) : Int :=
  if m < 1 ∨ 12 < m then 0 else if m = 4 ∨ m = 6 ∨ m = 9 ∨ m = 11 then 30 else if m = 2 then 28 + lp y else 31
def good (y m d : Int) : Bool := decide (1 ≤ y ∧ y ≤ 9999 ∧ 1 ≤ d ∧ d ≤ days y m)
/-- How many days lie ahead of a year. -/
def yrs (y : Int) : Int := 365 * (y - 1) + (y - 1) / 4 - (y - 1) / 100 + (y - 1) / 400
/-- How many days of its year lie ahead of a month. -/
def mon (y m : Int) : Int :=
  if m ≤ 1 then 0 else if m = 2 then 31 else lp y +
    (if m = 3 then 59 else if m = 4 then 90 else if m = 5 then 120 else if m = 6 then 151 else if m = 7 then 181 else if m = 8 then 212
      else if m = 9 then 243 else if m = 10 then 273 else if m = 11 then 304 else if m = 12 then 334 else 365)
def num (y m d : Int) : Int := yrs y + mon y m + d - 1
theorem lp_is (y : Int) : lp y = 0 ∨ lp y = 1 := by unfold lp; split <;> simp
theorem lp_yes {y : Int} (h : leap y = true) : lp y = 1 := by unfold lp; rw [if_pos h]
theorem lp_no {y : Int} (h : leap y = false) : lp y = 0 := by unfold lp; rw [h]; rfl
theorem yrs_step (y : Int) : yrs (y + 1) = yrs y + 365 + lp y := by
  unfold yrs lp leap
  simp only [decide_eq_true_eq]
  split <;> omega
theorem yrs_1 : yrs 1 = 0 := by unfold yrs; omega
theorem yrs_10000 : yrs 10000 = 3652059 := by unfold yrs; omega
theorem yrs_guess {n : Int} (h0 : 0 ≤ n) : yrs (n / 366 + 1) ≤ n := by unfold yrs; omega
theorem yrs_bound {y : Int} (h0 : 1 ≤ y) (h1 : y ≤ 10001) : 0 ≤ yrs y ∧ yrs y ≤ 3652425 := by unfold yrs; omega
theorem mon_step {y m : Int} (h0 : 1 ≤ m) (h1 : m ≤ 12) : mon y (m + 1) = mon y m + days y m := by
  have hl := lp_is y
  unfold mon days
  obtain rfl | rfl | rfl | rfl | rfl | rfl | rfl | rfl | rfl | rfl | rfl | rfl : m = 1 ∨ m = 2 ∨ m = 3 ∨ m = 4 ∨ m = 5 ∨ m = 6 ∨ m = 7 ∨ m = 8 ∨ m = 9 ∨ m = 10 ∨ m = 11 ∨ m = 12 := by omega
  all_goals (simp <;> omega)
theorem mon_1 (y : Int) : mon y 1 = 0 := by unfold mon; simp
theorem mon_13 (y : Int) : mon y 13 = 365 + lp y := by unfold mon; simp; omega
theorem days_in {y m : Int} (h0 : 1 ≤ m) (h1 : m ≤ 12) : 28 ≤ days y m ∧ days y m ≤ 31 := by
  have hl := lp_is y
  unfold days
  split
  · omega
  · split
    · omega
    · split <;> omega
theorem days_out {y m : Int} (h : m < 1 ∨ 12 < m) : days y m = 0 := by unfold days; rw [if_pos h]
theorem days_bound (y m : Int) : 0 ≤ days y m ∧ days y m ≤ 31 := by
  by_cases h : m < 1 ∨ 12 < m
  · rw [days_out h]; omega
  · have := days_in (y := y) (m := m) (by omega) (by omega); omega
theorem mon_mono {y a : Int} (h0 : 1 ≤ a) : ∀ (k : Nat), a + k ≤ 13 → mon y a ≤ mon y (a + k)
  | 0, _ => by simp
  | k + 1, h => by
    have h1 := mon_mono (y := y) h0 k (by omega)
    have h2 := mon_step (y := y) (m := a + k) (by omega) (by omega)
    have h3 := days_bound y (a + k)
    rw [show a + ((k + 1 : Nat) : Int) = a + k + 1 by omega]
    omega
theorem mon_le {y a b : Int} (h0 : 1 ≤ a) (h : a ≤ b) (h1 : b ≤ 13) : mon y a ≤ mon y b := by
  have := mon_mono (y := y) h0 (b - a).toNat (by omega)
  rwa [show a + ((b - a).toNat : Int) = b by omega] at this
theorem mon_bound {y m : Int} (h0 : 1 ≤ m) (h1 : m ≤ 13) : 0 ≤ mon y m ∧ mon y m ≤ 366 := by
  have a := mon_le (y := y) (a := 1) (b := m) (by omega) h0 h1
  have b := mon_le (y := y) (a := m) (b := 13) h0 h1 (by omega)
  rw [mon_1] at a; rw [mon_13] at b
  have := lp_is y
  omega
theorem good_iff {y m d : Int} : good y m d = true ↔ 1 ≤ y ∧ y ≤ 9999 ∧ 1 ≤ m ∧ m ≤ 12 ∧ 1 ≤ d ∧ d ≤ days y m := by
  unfold good
  rw [decide_eq_true_eq]
  constructor
  · rintro ⟨a, b, c, e⟩
    have : ¬ (m < 1 ∨ 12 < m) := fun h => by rw [days_out h] at e; omega
    omega
  · rintro ⟨a, b, _, _, c, e⟩; exact ⟨a, b, c, e⟩
def later (y m d y' m' d' : Int) : Prop := y > y' ∨ y = y' ∧ (m > m' ∨ m = m' ∧ d > d')
/-- A digit's byte. -/
def dch (k : Nat) : UInt8 := UInt8.ofNat (48 + k)
/-- A number in so many digits. -/
def pad : Nat → Nat → List UInt8
  | 0, _ => []
  | k + 1, n => pad k (n / 10) ++ [dch (n % 10)]
theorem pad_4 (n : Nat) : pad 4 n = [dch (n / 1000 % 10), dch (n / 100 % 10), dch (n / 10 % 10), dch (n % 10)] := by
  simp [pad, Nat.div_div_eq_div_mul]
theorem pad_2 (n : Nat) : pad 2 n = [dch (n / 10 % 10), dch (n % 10)] := by
  simp [pad]
def txt (y m d : Int) : List UInt8 := pad 4 y.toNat ++ [45] ++ pad 2 m.toNat ++ [45] ++ pad 2 d.toNat
theorem txt_is (y m d : Int) : txt y m d =
    [dch (y.toNat / 1000 % 10), dch (y.toNat / 100 % 10), dch (y.toNat / 10 % 10), dch (y.toNat % 10), 45,
      dch (m.toNat / 10 % 10), dch (m.toNat % 10), 45, dch (d.toNat / 10 % 10), dch (d.toNat % 10)] := by
  simp [txt, pad_4, pad_2]
theorem dig_toNat {k : Nat} (h : k < 10) : (dch k).toNat = 48 + k := by simp [dch]; omega
/-- A byte that is a digit. -/
def isD (b : UInt8) : Bool := decide (48 ≤ b.toNat ∧ b.toNat ≤ 57)
theorem isD_dig {k : Nat} (h : k < 10) : isD (dch k) = true := by unfold isD; rw [dig_toNat h]; simp; omega
/-- What digits come to. -/
def val (l : List UInt8) : Nat := l.foldl (fun n b => 10 * n + (b.toNat - 48)) 0
/-- The form of a day's text: digits, and - where it must stand. -/
def formed (l : List UInt8) : Bool := decide (l.length = 10) && (decide (l.getD 4 0 = 45) && decide (l.getD 7 0 = 45)) && ((l.take 4).all isD && (((l.drop 5).take 2).all isD && (l.drop 8).all isD))
def yearOf (l : List UInt8) : Int := val (l.take 4)
def monthOf (l : List UInt8) : Int := val ((l.drop 5).take 2)
def dayOf (l : List UInt8) : Int := val (l.drop 8)
def reads (l : List UInt8) : Bool := formed l && good (yearOf l) (monthOf l) (dayOf l)
theorem ten {l : List UInt8} (h : l.length = 10) : ∃ a b c d e f g i j k, l = [a, b, c, d, e, f, g, i, j, k] := by
  rcases l with _ | ⟨a, _ | ⟨b, _ | ⟨c, _ | ⟨d, _ | ⟨e, _ | ⟨f, _ | ⟨g, _ | ⟨i, _ | ⟨j, _ | ⟨k, _ | ⟨x, t⟩⟩⟩⟩⟩⟩⟩⟩⟩⟩⟩
  all_goals simp at h
  exact ⟨a, b, c, d, e, f, g, i, j, k, rfl⟩
theorem shape_txt (y m d : Int) : formed (txt y m d) = true := by
  have h : ∀ n, n % 10 < 10 := fun n => Nat.mod_lt _ (by decide)
  rw [txt_is]
  simp [formed, isD_dig, h]
theorem of_txt {y m d : Int} (hy : 0 ≤ y) (hy1 : y ≤ 9999) (hm : 0 ≤ m) (hm1 : m ≤ 99) (hd : 0 ≤ d) (hd1 : d ≤ 99) : yearOf (txt y m d) = y ∧ monthOf (txt y m d) = m ∧ dayOf (txt y m d) = d := by
  have h : ∀ n, n % 10 < 10 := fun n => Nat.mod_lt _ (by decide)
  rw [txt_is]
  simp only [yearOf, monthOf, dayOf, List.take, List.drop, val, List.foldl, dig_toNat (h _)]
  omega
theorem good_small {y m d : Int} (g : good y m d = true) : 0 ≤ y ∧ y ≤ 9999 ∧ 0 ≤ m ∧ m ≤ 99 ∧ 0 ≤ d ∧ d ≤ 99 := by
  obtain ⟨h0, h1, h2, h3, h4, h5⟩ := good_iff.1 g
  have := days_bound y m
  omega
theorem reads_txt {y m d : Int} (g : good y m d = true) : reads (txt y m d) = true := by
  obtain ⟨h0, h1, h2, h3, h4, h5⟩ := good_small g
  obtain ⟨a, b, c⟩ := of_txt h0 h1 h2 h3 h4 h5
  unfold reads
  rw [a, b, c, g, shape_txt]
  rfl
end Go.Proofs.YtjgogpaedaffkaaGreat.P
/- What is wrong with a plan, and its bound, as plain arithmetic (layer 9): no program is named here. -/
namespace Go.Proofs.YtjgogpaedaffkaaGreat.P
open Go.RowKit Mm
def dn (d : Day) : Int := num d.y d.m d.d
/-- Where a meter of that name stands. -/
def meterIx (ms : List Meter) (name : ByteArray) : Option Nat := ms.findIdx? fun m => m.name.data.toList == name.data.toList
def winIn (p : Plan) (w : Win) : Bool := !w.has || (decide (dn w.a ≤ dn w.b) && decide (dn p.a ≤ dn w.a) && decide (dn w.b ≤ dn p.b))
/-- Whether the tiers rise, but the last one; behind one that told `u`. -/
def risesB : Int → List Tier → Bool
  | _, [] => true
  | _, [_] => true
  | u, t :: r => decide (1 ≤ t.upto) && decide (u < t.upto) && risesB t.upto r
def chE (p : Plan) (i : Nat) (c : Charge) : Int :=
  if 8 ≤ i then 6 else if meterIx p.meters c.meter = none ∨ winIn p c.win = false ∨ c.block = 0 then 5 else if 8 < c.tiers.length then 6 else if risesB 0 c.tiers = false then 5 else if 6 < c.adjusts.length then 6 else 0
/-- The least multiple of a block that isn't below. -/
def qty (mx al bl : Int) : Int := if mx - al ≤ 0 then 0 else (mx - al + bl - 1) / bl * bl
/-- What a plan's numbers are, that a text tells: none is below 0. -/
structure NoNeg (p : Plan) : Prop where
  fees : ∀ f ∈ p.fees, 0 ≤ f.amount
  rates : ∀ c ∈ p.charges, ∀ t ∈ c.tiers, 0 ≤ t.rate
  adjs : ∀ c ∈ p.charges, ∀ a ∈ c.adjusts, 0 ≤ a.num
  blocks : ∀ c ∈ p.charges, 0 ≤ c.block
end Go.Proofs.YtjgogpaedaffkaaGreat.P
/- Numbers with a point, as plain arithmetic on letters: no program is named here. -/
namespace Go.Proofs.YtjgogpaedaffkaaGreat.P
open Go.RowKit
/-- A digit, or the point. -/
def isDg (b : UInt8) : Bool := decide (48 ≤ b.toNat ∧ b.toNat ≤ 57)
def isDp (b : UInt8) : Bool := isDg b || b == 46
/-- Whether the first letters say that it is no number. -/
def oddHead (l : List UInt8) : Bool := l.getD 0 0 == 48 && (decide (1 < l.length) && !(l.getD 1 0 == 46))
/-- Whether the letters may stand in a number: digits, at most one point, and that not the last. -/
def evenBody (l : List UInt8) : Bool := l.all isDp && (decide (l.count 46 ≤ 1) && !(l.getLast? == some 46))
/-- A text's form. -/
def fm (l : List UInt8) : Nat := if isDg (l.getD 0 0) && evenBody l && !oddHead l then 1 + l.count 46 else 0
theorem isDg_iff (b : UInt8) : isDg b = true ↔ 48 ≤ b.toNat ∧ b.toNat ≤ 57 := by unfold isDg; rw [decide_eq_true_eq]
theorem isDg_no46 {b : UInt8} (h : isDg b = true) : b ≠ 46 := by
  rintro rfl
  revert h
  decide
theorem fm_empty : fm [] = 0 := by decide
theorem fm_first {l : List UInt8} (h : isDg (l.getD 0 0) = false) : fm l = 0 := by unfold fm; rw [h]; rfl
theorem fm_body {l : List UInt8} (h : evenBody l = false) : fm l = 0 := by unfold fm; rw [h]; simp
theorem fm_head {l : List UInt8} (h : oddHead l = true) : fm l = 0 := by unfold fm; rw [h]; simp
theorem fm_is {l : List UInt8} (h0 : isDg (l.getD 0 0) = true) (h1 : evenBody l = true) (h2 : oddHead l = false) : fm l = 1 + l.count 46 := by unfold fm; rw [h0, h1, h2]; rfl
/-- What a walk along the letters knows so far. -/
structure Seen (l : List UInt8) (i p : Nat) : Prop where
  le : i ≤ l.length
  all : (l.take i).all isDp = true
  count : (l.take i).count 46 = p
  one : p ≤ 1
  last : i = l.length → (l.getLast? == some 46) = false
theorem Seen.start {l : List UInt8} (h : 0 < l.length) : Seen l 0 0 := ⟨Nat.zero_le _, rfl, rfl, Nat.zero_le _, fun e => by omega⟩
theorem Seen.done {l : List UInt8} {p : Nat} (S : Seen l l.length p) : evenBody l = true ∧ l.count 46 = p := by
  have h1 := S.all
  have h2 := S.count
  rw [List.take_length] at h1 h2
  refine ⟨?_, h2⟩
  unfold evenBody
  rw [h1, h2, S.last rfl, decide_eq_true S.one]
  rfl
/-- How many digits stand behind the point; -1: there is none. -/
def stB (l : List UInt8) : Int := l.foldl (fun b c => if c = 46 then 0 else if 0 ≤ b then b + 1 else b) (-1)
/-- The digits' number. -/
def stV (l : List UInt8) : Nat := l.foldl (fun v c => if c = 46 then v else 10 * v + (c.toNat - 48)) 0
theorem stB_snoc (l : List UInt8) (c : UInt8) : stB (l ++ [c]) = if c = 46 then 0 else if 0 ≤ stB l then stB l + 1 else stB l := by
  unfold stB
  rw [List.foldl_append]
  rfl
theorem stV_snoc (l : List UInt8) (c : UInt8) : stV (l ++ [c]) = if c = 46 then stV l else 10 * stV l + (c.toNat - 48) := by
  unfold stV
  rw [List.foldl_append]
  rfl
/-- What Parse comes to: the number, whether the text or the places are bad, whether it is too great. -/
def pK (l : List UInt8) (places : Int) : Nat := (places - max (stB l) 0).toNat
def pV (l : List UInt8) (places : Int) : Int := (stV l : Int) * 10 ^ pK l places
def pBad (l : List UInt8) (places : Int) : Bool := decide (fm l = 0 ∨ places < 0 ∨ 9 < places ∨ places < stB l)
def pGreat (l : List UInt8) (places most : Int) : Bool := !ok64 (pV l places) || decide (most < pV l places)
def pN (l : List UInt8) (places most : Int) : Int := if pBad l places || pGreat l places most then 0 else pV l places
def pW (l : List UInt8) (places most : Int) : Int := if pBad l places then 1 else if pGreat l places most then 2 else 0
theorem fm_all {l : List UInt8} (h : fm l ≠ 0) : l.all isDp = true := by
  cases k : l.all isDp
  · exact absurd (fm_body (by unfold evenBody; rw [k]; rfl)) h
  · rfl
end Go.Proofs.YtjgogpaedaffkaaGreat.P
/- Letters and tokens, as plain functions on bytes: no program is named here. -/
namespace Go.Proofs.YtjgogpaedaffkaaGreat.P
open Go.RowKit
/-- A letter that may stand in a row. -/
def isLt (b : UInt8) : Bool := decide (b.toNat = 95 ∨ b.toNat = 46 ∨ b.toNat = 45 ∨ (48 ≤ b.toNat ∧ b.toNat ≤ 57) ∨ (97 ≤ b.toNat ∧ b.toNat ≤ 122) ∨ (65 ≤ b.toNat ∧ b.toNat ≤ 90))
/-- The words that are no names. -/
def words : List (List UInt8) := [[112, 108, 97, 110], [99, 117, 114, 114, 101, 110, 99, 121], [104, 111, 114, 105, 122, 111, 110], [109, 101, 116, 101, 114], [117, 110, 105, 116], [109, 97, 120], [102, 101, 101],
  [99, 104, 97, 114, 103, 101], [102, 114, 111, 109], [116, 111], [97, 108, 108, 111, 119, 97, 110, 99, 101], [98, 108, 111, 99, 107], [103, 114, 97, 100, 117, 97, 116, 101, 100], [118, 111, 108, 117, 109, 101], [117, 112, 116, 111],
  [114, 97, 116, 101], [114, 101, 115, 116], [114, 111, 117, 110, 100], [102, 108, 111, 111, 114], [99, 101, 105, 108], [104, 97, 108, 102, 117, 112], [104, 97, 108, 102, 101, 118, 101, 110], [112, 101, 114, 99, 101, 110, 116], [99, 97, 112],
  [109, 105, 110, 105, 109, 117, 109], [97, 100, 100]]
/-- Whether a row has neither a point nor a stroke. -/
def plain (l : List UInt8) : Bool := l.all fun c => !(c == 46) && !(c == 45)
/-- Of what kind letters are; 0: of none. -/
def kd (l : List UInt8) : Nat :=
  if l = [123] ∨ l = [125] ∨ l = [59] then 5
  else if l = [] ∨ l.all isLt = false then 0
  else if words.contains l then 2
  else if plain l && !isDg (l.getD 0 0) then 1
  else if fm l ≠ 0 then 3
  else if reads l then 4
  else 0
end Go.Proofs.YtjgogpaedaffkaaGreat.P
/- A text as tokens, as a plain function on bytes: no program is named here. -/
namespace Go.Proofs.YtjgogpaedaffkaaGreat.P
open Go.RowKit
/-- A token: its kind, its letters, its place. -/
structure Tok where
  k : Nat
  t : List UInt8
  ln : Nat
  cl : Nat
deriving DecidableEq
def isGap (c : UInt8) : Bool := c == 32 || c == 9 || c == 10 || c == 13
def skips (c : UInt8) : Bool := c == 35 || isGap c
/-- How many letters stand in a row. -/
def run (p : UInt8 → Bool) : List UInt8 → Nat
  | [] => 0
  | c :: r => if p c then run p r + 1 else 0
/-- It is the run's length that all before are, and that the next one is not. -/
theorem run_eq (p : UInt8 → Bool) (l : List UInt8) (n : Nat) (hn : n ≤ l.length) (h1 : ∀ j, j < n → p (l.getD j 0) = true) (h2 : n < l.length → p (l.getD n 0) = false) : run p l = n := by
  induction l generalizing n with
  | nil => simp at hn; simp [run, hn]
  | cons c r ih =>
    unfold run
    cases n with
    | zero =>
      have := h2 (by simp)
      rw [if_neg (by simpa using this)]
    | succ n =>
      have := h1 0 (by omega)
      rw [if_pos (by simpa using this), ih n (by simpa using hn) (fun j hj => by simpa using h1 (j + 1) (by omega)) (fun h => by simpa using h2 (by simpa using h))]
/-- Of how many bytes what stands at the head is. -/
def piece : List UInt8 → Nat
  | [] => 0
  | c :: r => if c == 35 then run (fun x => !(x == 10)) r + 1 else if isGap c then 1 else if isLt c then run isLt r + 1 else 1
theorem piece_cons (c : UInt8) (r : List UInt8) : piece (c :: r) = if c == 35 then run (fun x => !(x == 10)) r + 1 else if isGap c then 1 else if isLt c then run isLt r + 1 else 1 := rfl
theorem piece_pos (c : UInt8) (r : List UInt8) : 0 < piece (c :: r) := by rw [piece_cons]; repeat' split
                                                                          all_goals omega
/-- All tokens from a place on; and the place of what is none, if there is such. -/
def lx : Nat → List UInt8 → Nat → Nat → List Tok × Option (Nat × Nat)
  | 0, _, ln, cl => ([⟨0, [], ln, cl⟩], none)
  | _ + 1, [], ln, cl => ([⟨0, [], ln, cl⟩], none)
  | n + 1, c :: r, ln, cl =>
    if skips c then lx n ((c :: r).drop (piece (c :: r))) (if c == 10 then ln + 1 else ln) (if c == 10 then 1 else cl + piece (c :: r))
    else if kd ((c :: r).take (piece (c :: r))) = 0 then ([], some (ln, cl))
    else (⟨kd ((c :: r).take (piece (c :: r))), (c :: r).take (piece (c :: r)), ln, cl⟩ :: (lx n ((c :: r).drop (piece (c :: r))) ln (cl + piece (c :: r))).1, (lx n ((c :: r).drop (piece (c :: r))) ln (cl + piece (c :: r))).2)
/-- More fuel changes nothing. -/
theorem lx_fuel (n m : Nat) (l : List UInt8) (ln cl : Nat) (hn : l.length ≤ n) (hm : l.length ≤ m) : lx n l ln cl = lx m l ln cl := by
  induction n generalizing m l ln cl with
  | zero =>
    obtain rfl : l = [] := List.eq_nil_of_length_eq_zero (by omega)
    cases m <;> rfl
  | succ n ih =>
    cases l with
    | nil => cases m <;> rfl
    | cons c r =>
      cases m with
      | zero => simp at hm
      | succ m =>
        have hp := piece_pos c r
        have hd : ((c :: r).drop (piece (c :: r))).length ≤ r.length := by rw [List.length_drop, List.length_cons]; omega
        simp only [List.length_cons] at hn hm
        unfold lx
        have e := fun ln cl => ih m ((c :: r).drop (piece (c :: r))) ln cl (by omega) (by omega)
        rw [e, e]
def lex (l : List UInt8) (ln cl : Nat) : List Tok × Option (Nat × Nat) := lx l.length l ln cl
theorem lex_skip {c : UInt8} {r : List UInt8} (h : skips c = true) (ln cl : Nat) :
    lex (c :: r) ln cl = lex ((c :: r).drop (piece (c :: r))) (if c == 10 then ln + 1 else ln) (if c == 10 then 1 else cl + piece (c :: r)) := by
  have hp := piece_pos c r
  show lx (r.length + 1) (c :: r) ln cl = _
  unfold lx
  rw [if_pos h]
  exact lx_fuel _ _ _ _ _ (by rw [List.length_drop, List.length_cons]; omega) (Nat.le_refl _)
theorem lex_bad {c : UInt8} {r : List UInt8} (h : skips c = false) (hk : kd ((c :: r).take (piece (c :: r))) = 0) (ln cl : Nat) : lex (c :: r) ln cl = ([], some (ln, cl)) := by
  show lx (r.length + 1) (c :: r) ln cl = _
  unfold lx
  rw [if_neg (by rw [h]; decide), if_pos hk]
theorem lex_tok {c : UInt8} {r : List UInt8} (h : skips c = false) (hk : kd ((c :: r).take (piece (c :: r))) ≠ 0) (ln cl : Nat) :
    lex (c :: r) ln cl = (⟨kd ((c :: r).take (piece (c :: r))), (c :: r).take (piece (c :: r)), ln, cl⟩ :: (lex ((c :: r).drop (piece (c :: r))) ln (cl + piece (c :: r))).1, (lex ((c :: r).drop (piece (c :: r))) ln (cl + piece (c :: r))).2) := by
  have hp := piece_pos c r
  show lx (r.length + 1) (c :: r) ln cl = _
  unfold lx
  rw [if_neg (by rw [h]; decide), if_neg hk]
  rw [show lx r.length ((c :: r).drop (piece (c :: r))) ln (cl + piece (c :: r)) = lex ((c :: r).drop (piece (c :: r))) ln (cl + piece (c :: r)) from lx_fuel _ _ _ _ _ (by rw [List.length_drop, List.length_cons]; omega) (Nat.le_refl _)]
/-- No more tokens than bytes, and one. -/
theorem lx_count (n : Nat) (l : List UInt8) (ln cl : Nat) (hn : l.length ≤ n) : (lx n l ln cl).1.length ≤ l.length + 1 := by
  induction n generalizing l ln cl with
  | zero => simp [lx]
  | succ n ih =>
    cases l with
    | nil => simp [lx]
    | cons c r =>
      have hp := piece_pos c r
      have hd : ((c :: r).drop (piece (c :: r))).length ≤ r.length := by rw [List.length_drop, List.length_cons]; omega
      simp only [List.length_cons] at hn
      unfold lx
      have e := fun ln cl => ih ((c :: r).drop (piece (c :: r))) ln cl (by omega)
      split
      · refine Nat.le_trans (e _ _) ?_
        simp only [List.length_cons]; omega
      · split
        · simp
        · have := e ln (cl + piece (c :: r))
          simp only [List.length_cons]
          omega
theorem lex_count (l : List UInt8) (ln cl : Nat) : (lex l ln cl).1.length ≤ l.length + 1 := lx_count _ _ _ _ (Nat.le_refl _)
end Go.Proofs.YtjgogpaedaffkaaGreat.P
/- A row of tokens, read from the left: what the document's parser does, as plain functions: no program is named here. -/
namespace Go.Proofs.YtjgogpaedaffkaaGreat.P
open Go.RowKit Mm
/-- Which token is next, and what is wrong, and where. -/
structure St where
  i : Nat
  err : Int
  ln : Int
  cl : Int
def nil0 : Tok := ⟨0, [], 0, 0⟩
def tk (ts : List Tok) (s : St) : Tok := ts.getD s.i nil0
def St.next (s : St) : St := { s with i := s.i + 1 }
/-- The first thing that is wrong counts. -/
def wrg (ts : List Tok) (s : St) (e : Int) : St := if s.err = 0 then { s with err := e, ln := (tk ts s).ln, cl := (tk ts s).cl } else s
def onW (ts : List Tok) (s : St) (l : List UInt8) : Bool := decide (s.err = 0) && ((decide ((tk ts s).k = 2) || decide ((tk ts s).k = 5)) && ((tk ts s).t == l))
def wnt (ts : List Tok) (s : St) (l : List UInt8) : St := if onW ts s l then s.next else wrg ts s 4
def isTk (ts : List Tok) (s : St) (k : Nat) : Bool := decide (s.err = 0) && decide ((tk ts s).k = k)
def tkn (ts : List Tok) (s : St) (k : Nat) : List UInt8 × St := if isTk ts s k then ((tk ts s).t, s.next) else ([], wrg ts s 4)
def bad (ts : List Tok) (s : St) (v : Int) : St := if v = 1 then wrg ts s 4 else if v = 2 then wrg ts s 6 else s
def numS (ts : List Tok) (s : St) (places most : Int) : Int × St :=
  if isTk ts s 3 then (pN (tk ts s).t places most, (bad ts s (pW (tk ts s).t places most)).next) else (0, wrg ts s 4)
def dayOf' (l : List UInt8) : Day := if reads l then ⟨yearOf l, monthOf l, dayOf l⟩ else ⟨0, 0, 0⟩
def dayS (ts : List Tok) (s : St) : Day × St := (dayOf' (tkn ts s 4).1, (tkn ts s 4).2)
def wFrom : List UInt8 := [102, 114, 111, 109]
def wTo : List UInt8 := [116, 111]
def winS (ts : List Tok) (s : St) : Win × St :=
  if onW ts s wFrom then
    let a := dayS ts s.next
    let b := dayS ts (wnt ts a.2 wTo)
    (⟨true, a.1, b.1⟩, b.2)
  else (⟨false, ⟨0, 0, 0⟩, ⟨0, 0, 0⟩⟩, s)
/-- Which of some words is next. -/
def oneAt (ts : List Tok) (s : St) : List (List UInt8) → Int → Int × St
  | [], _ => (-1, s)
  | w :: r, k => if onW ts s w then (k, s.next) else oneAt ts s r (k + 1)
def oneS (ts : List Tok) (s : St) (ws : List (List UInt8)) : Int × St := oneAt ts s ws 0
def modes : List (List UInt8) := [[102, 108, 111, 111, 114], [99, 101, 105, 108], [104, 97, 108, 102, 117, 112], [104, 97, 108, 102, 101, 118, 101, 110]]
def modeS (ts : List Tok) (s : St) : Int × St := if (oneS ts s modes).1 < 0 then (0, wrg ts (oneS ts s modes).2 4) else oneS ts s modes
/-- The row of tokens ends with the end, and nothing else in it is of that kind. -/
structure Toks (ts : List Tok) : Prop where
  last : ∀ i t, ts[i]? = some t → i + 1 = ts.length → t.k = 0
  pos : 0 < ts.length
structure Ok (ts : List Tok) (s : St) : Prop where
  toks : Toks ts
  lt : s.i < ts.length
theorem Ok.at {ts : List Tok} {s : St} (h : Ok ts s) : ts[s.i]? = some (tk ts s) := by
  unfold tk
  rw [List.getElem?_eq_getElem h.lt, List.getD_eq_getElem?_getD, List.getElem?_eq_getElem h.lt]
  rfl
theorem Ok.next {ts : List Tok} {s : St} (h : Ok ts s) (hk : (tk ts s).k ≠ 0) : Ok ts s.next := by
  refine ⟨h.toks, ?_⟩
  show s.i + 1 < ts.length
  have := h.lt
  rcases Nat.lt_or_ge (s.i + 1) ts.length with h1 | h1
  · exact h1
  · exact absurd (h.toks.last s.i _ h.at (by omega)) hk
theorem Ok.wrg {ts : List Tok} {s : St} (h : Ok ts s) (e : Int) : Ok ts (wrg ts s e) := by
  unfold P.wrg
  split
  · exact ⟨h.toks, h.lt⟩
  · exact h
theorem wrg_i (ts : List Tok) (s : St) (e : Int) : (wrg ts s e).i = s.i := by unfold wrg; split <;> rfl
theorem onW_k {ts : List Tok} {s : St} {l : List UInt8} (h : onW ts s l = true) : (tk ts s).k ≠ 0 := by
  unfold onW at h
  simp only [Bool.and_eq_true, Bool.or_eq_true, decide_eq_true_eq] at h
  omega
theorem isTk_k {ts : List Tok} {s : St} {k : Nat} (h : isTk ts s k = true) (hk : k ≠ 0) : (tk ts s).k ≠ 0 := by
  unfold isTk at h
  simp only [Bool.and_eq_true, decide_eq_true_eq] at h
  omega
theorem Ok.wnt {ts : List Tok} {s : St} (h : Ok ts s) (l : List UInt8) : Ok ts (wnt ts s l) := by
  unfold P.wnt
  split
  · rename_i ho; exact h.next (onW_k ho)
  · exact h.wrg 4
theorem Ok.tkn {ts : List Tok} {s : St} (h : Ok ts s) {k : Nat} (hk : k ≠ 0) : Ok ts (tkn ts s k).2 := by
  unfold P.tkn
  split
  · rename_i ho; exact h.next (isTk_k ho hk)
  · exact h.wrg 4
theorem Ok.numS {ts : List Tok} {s : St} (h : Ok ts s) (places most : Int) : Ok ts (numS ts s places most).2 := by
  unfold P.numS
  split
  · rename_i ho
    have hn := (h.next (isTk_k ho (by decide))).lt
    refine ⟨h.toks, ?_⟩
    have e : (bad ts s (pW (tk ts s).t places most)).i = s.i := by
      unfold bad
      repeat' split
      · exact wrg_i ..
      · exact wrg_i ..
      · rfl
    show (bad ts s _).i + 1 < _
    rw [e]
    exact hn
  · exact h.wrg 4
theorem Ok.dayS {ts : List Tok} {s : St} (h : Ok ts s) : Ok ts (dayS ts s).2 := h.tkn (by decide)
theorem Ok.winS {ts : List Tok} {s : St} (h : Ok ts s) : Ok ts (winS ts s).2 := by
  unfold P.winS
  split
  · rename_i ho; exact (((h.next (onW_k ho)).dayS).wnt _).dayS
  · exact h
theorem Ok.oneAt {ts : List Tok} {s : St} (h : Ok ts s) : ∀ (ws : List (List UInt8)) (k : Int), Ok ts (oneAt ts s ws k).2
  | [], _ => h
  | w :: r, k => by
    unfold P.oneAt
    split
    · rename_i ho; exact h.next (onW_k ho)
    · exact Ok.oneAt h r (k + 1)
theorem Ok.oneS {ts : List Tok} {s : St} (h : Ok ts s) (ws : List (List UInt8)) : Ok ts (oneS ts s ws).2 := h.oneAt ws 0
theorem Ok.modeS {ts : List Tok} {s : St} (h : Ok ts s) : Ok ts (modeS ts s).2 := by
  unfold P.modeS
  split
  · exact (h.oneS _).wrg 4
  · exact h.oneS _
end Go.Proofs.YtjgogpaedaffkaaGreat.P

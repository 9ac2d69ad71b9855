/- Numbers with a point, as plain arithmetic on letters: no program is named here. -/
import Derived.Test.YtcigholifpmdjaaPure
namespace Go.Proofs.Ytcigholifpmdjaa.P
open Go.RowKit

/-- A digit, or the point. -/
def isDg (b : UInt8) : Bool := decide (48 ≤ b.toNat ∧ b.toNat ≤ 57)
def isDp (b : UInt8) : Bool := isDg b || b == 46
/-- Whether the first letters say that it is no number. -/
def oddHead (l : List UInt8) : Bool := l.getD 0 0 == 48 && (decide (1 < l.length) && !(l.getD 1 0 == 46))
/-- Whether the letters may stand in a number: digits, at most one point, and that not the last. -/
def evenBody (l : List UInt8) : Bool := l.all isDp && (decide (l.count 46 ≤ 1) && !(l.getLast? == some 46))
/-- A text's form. -/
def fm (l : List UInt8) : Nat := if isDg (l.getD 0 0) && evenBody l && !oddHead l then 1 + l.count 46 else 0
theorem isDg_iff (b : UInt8) : isDg b = true ↔ 48 ≤ b.toNat ∧ b.toNat ≤ 57 := by unfold isDg; rw [decide_eq_true_eq]
theorem isDg_no46 {b : UInt8} (h : isDg b = true) : b ≠ 46 := by
  rintro rfl
  revert h
  decide
theorem getD_nil0 : isDg (([] : List UInt8).getD 0 0) = false := by decide
theorem fm_empty : fm [] = 0 := by decide
theorem fm_first {l : List UInt8} (h : isDg (l.getD 0 0) = false) : fm l = 0 := by unfold fm; rw [h]; rfl
theorem fm_body {l : List UInt8} (h : evenBody l = false) : fm l = 0 := by unfold fm; rw [h]; simp
theorem fm_head {l : List UInt8} (h : oddHead l = true) : fm l = 0 := by unfold fm; rw [h]; simp
theorem fm_is {l : List UInt8} (h0 : isDg (l.getD 0 0) = true) (h1 : evenBody l = true) (h2 : oddHead l = false) : fm l = 1 + l.count 46 := by unfold fm; rw [h0, h1, h2]; rfl
theorem take_snoc {l : List UInt8} {i : Nat} (h : i < l.length) : l.take (i + 1) = l.take i ++ [l.getD i 0] := by
  rw [List.take_add_one, List.getElem?_eq_getElem h, List.getD_eq_getElem?_getD, List.getElem?_eq_getElem h]
  rfl
theorem mem_getD {l : List UInt8} {i : Nat} (h : i < l.length) : l.getD i 0 ∈ l := by
  rw [List.getD_eq_getElem?_getD, List.getElem?_eq_getElem h]
  exact List.getElem_mem h
theorem last_getD {l : List UInt8} {i : Nat} (h : i + 1 = l.length) : l.getLast? = some (l.getD i 0) := by
  rw [List.getLast?_eq_getElem?, show l.length - 1 = i by omega, List.getD_eq_getElem?_getD, List.getElem?_eq_getElem (by omega)]
  rfl
/-- What a walk along the letters knows so far. -/
structure Seen (l : List UInt8) (i p : Nat) : Prop where
  le : i ≤ l.length
  all : (l.take i).all isDp = true
  count : (l.take i).count 46 = p
  one : p ≤ 1
  last : i = l.length → (l.getLast? == some 46) = false
theorem Seen.start {l : List UInt8} (h : 0 < l.length) : Seen l 0 0 := ⟨Nat.zero_le _, rfl, rfl, Nat.zero_le _, fun e => by omega⟩
theorem Seen.digit {l : List UInt8} {i p : Nat} (S : Seen l i p) (h : i < l.length) (hd : isDg (l.getD i 0) = true) : Seen l (i + 1) p := by
  have hn := isDg_no46 hd
  refine ⟨h, ?_, ?_, S.one, fun e => ?_⟩
  · rw [take_snoc h, List.all_append, S.all]
    generalize l.getD i 0 = b at *
    simp [isDp, hd]
  · rw [take_snoc h, List.count_append, S.count, List.count_singleton]
    generalize l.getD i 0 = b at *
    simp [hn]
  · rw [last_getD e]
    generalize l.getD i 0 = b at *
    simpa using hn
theorem Seen.point {l : List UInt8} {i p : Nat} (S : Seen l i p) (h : i < l.length) (hd : l.getD i 0 = 46) (hp : p = 0) (hi : i + 1 ≠ l.length) : Seen l (i + 1) (p + 1) := by
  refine ⟨h, ?_, ?_, by omega, fun e => absurd e hi⟩
  · rw [take_snoc h, List.all_append, S.all, hd]; rfl
  · rw [take_snoc h, List.count_append, S.count, hd]; rfl
theorem Seen.done {l : List UInt8} {p : Nat} (S : Seen l l.length p) : evenBody l = true ∧ l.count 46 = p := by
  have h1 := S.all
  have h2 := S.count
  rw [List.take_length] at h1 h2
  refine ⟨?_, h2⟩
  unfold evenBody
  rw [h1, h2, S.last rfl, decide_eq_true S.one]
  rfl
theorem Seen.two {l : List UInt8} {i p : Nat} (S : Seen l i p) (h : i < l.length) (hd : l.getD i 0 = 46) (hp : p = 1) : evenBody l = false := by
  have e : (l.take (i + 1)).count 46 = 2 := by rw [take_snoc h, List.count_append, S.count, hd, hp]; rfl
  have k : (l.take (i + 1)).count 46 ≤ l.count 46 := (List.take_sublist _ _).count_le _
  unfold evenBody
  rw [decide_eq_false (by omega)]
  simp
theorem ends_point {l : List UInt8} {i : Nat} (h : i + 1 = l.length) (hd : l.getD i 0 = 46) : evenBody l = false := by
  unfold evenBody
  rw [last_getD h, hd]
  simp
theorem bad_letter {l : List UInt8} {i : Nat} (h : i < l.length) (hd : isDg (l.getD i 0) = false) (hp : l.getD i 0 ≠ 46) : evenBody l = false := by
  have e : l.all isDp = false := by
    rw [Bool.eq_false_iff]
    intro k
    rw [List.all_eq_true] at k
    have := k _ (mem_getD h)
    unfold isDp at this
    rw [hd] at this
    simp at this
    exact hp this
  unfold evenBody
  rw [e]
  rfl

/-! What the letters come to. -/
/-- How many digits stand behind the point; -1: there is none. -/
def stB (l : List UInt8) : Int := l.foldl (fun b c => if c = 46 then 0 else if 0 ≤ b then b + 1 else b) (-1)
/-- The digits' number. -/
def stV (l : List UInt8) : Nat := l.foldl (fun v c => if c = 46 then v else 10 * v + (c.toNat - 48)) 0
theorem stB_snoc (l : List UInt8) (c : UInt8) : stB (l ++ [c]) = if c = 46 then 0 else if 0 ≤ stB l then stB l + 1 else stB l := by
  unfold stB
  rw [List.foldl_append]
  rfl
theorem stV_snoc (l : List UInt8) (c : UInt8) : stV (l ++ [c]) = if c = 46 then stV l else 10 * stV l + (c.toNat - 48) := by
  unfold stV
  rw [List.foldl_append]
  rfl
theorem stB_bound : ∀ (k : Nat) (l : List UInt8), l.length = k → -1 ≤ stB l ∧ stB l ≤ k := by
  intro k
  induction k with
  | zero => intro l h; rw [List.length_eq_zero_iff.1 h]; decide
  | succ k ih =>
    intro l h
    have hk : k < l.length := by omega
    have e : l = l.take k ++ [l.getD k 0] := by
      have := take_snoc hk
      rwa [List.take_of_length_le (by omega)] at this
    have h1 := ih (l.take k) (by simp; omega)
    rw [e, stB_snoc]
    split
    · omega
    · split <;> omega
/-- One digit more. -/
theorem acc_step {v d : Int} (hv : 0 ≤ v) (hd : 0 ≤ d) : (ok64 v && ok64 (cut64 v * 10 + d)) = ok64 (v * 10 + d) ∧ (if (ok64 v && ok64 (cut64 v * 10 + d)) = true then cut64 v * 10 + d else 0) = cut64 (v * 10 + d) := by
  by_cases h : I64 v
  · rw [cut64_t h, ok64_t h, Bool.true_and]
    exact ⟨rfl, rfl⟩
  · have h2 : ¬ I64 (v * 10 + d) := by unfold I64 at *; omega
    rw [ok64_f h, ok64_f h2, cut64_f h2]
    exact ⟨rfl, rfl⟩
/-- What Parse comes to: the number, whether the text or the places are bad, whether it is too great. -/
def pK (l : List UInt8) (places : Int) : Nat := (places - max (stB l) 0).toNat
def pV (l : List UInt8) (places : Int) : Int := (stV l : Int) * 10 ^ pK l places
def pBad (l : List UInt8) (places : Int) : Bool := decide (fm l = 0 ∨ places < 0 ∨ 9 < places ∨ places < stB l)
def pGreat (l : List UInt8) (places most : Int) : Bool := !ok64 (pV l places) || decide (most < pV l places)
def pN (l : List UInt8) (places most : Int) : Int := if pBad l places || pGreat l places most then 0 else pV l places
def pW (l : List UInt8) (places most : Int) : Int := if pBad l places then 1 else if pGreat l places most then 2 else 0
theorem fm_all {l : List UInt8} (h : fm l ≠ 0) : l.all isDp = true := by
  cases k : l.all isDp
  · exact absurd (fm_body (by unfold evenBody; rw [k]; rfl)) h
  · rfl
theorem dp_or {l : List UInt8} (h : l.all isDp = true) {i : Nat} (hi : i < l.length) : l.getD i 0 = 46 ∨ isDg (l.getD i 0) = true := by
  rw [List.all_eq_true] at h
  have := h _ (mem_getD hi)
  unfold isDp at this
  simp only [Bool.or_eq_true, beq_iff_eq] at this
  exact this.symm
end Go.Proofs.Ytcigholifpmdjaa.P

/- The shortest text of a number with a point, as plain arithmetic: no program is named here. -/
import Derived.Test.YtcigholifpmdjaaDecP
import Derived.Test.YtcigholifpmdjaaDatP
import Derived.Lib.ItoaLen
namespace Go.Proofs.Ytcigholifpmdjaa.P
open Go.RowKit

/-- The digits behind the point, of so many places: noughts at the end are left out. -/
def fs (n : Nat) : Nat → List UInt8
  | 0 => []
  | k + 1 => if fs n k ≠ [] ∨ n / 10 ^ k % 10 ≠ 0 then dch (n / 10 ^ k % 10) :: fs n k else []
theorem fs_yes {n k : Nat} (h : fs n k ≠ [] ∨ n / 10 ^ k % 10 ≠ 0) : fs n (k + 1) = dch (n / 10 ^ k % 10) :: fs n k := by rw [fs, if_pos h]
theorem fs_no {n k : Nat} (h : fs n k = []) (h2 : n / 10 ^ k % 10 = 0) : fs n (k + 1) = [] := by
  rw [fs, if_neg]
  rintro (a | a)
  · exact a h
  · exact a h2
theorem fs_length (n : Nat) : ∀ k, (fs n k).length ≤ k
  | 0 => by simp [fs]
  | k + 1 => by
    have := fs_length n k
    rw [fs]
    split
    · simp; omega
    · simp
/-- The point and what stands behind it. -/
def tail (n places : Nat) : List UInt8 := if fs n places = [] then [] else 46 :: fs n places
def tx (n places : Nat) : List UInt8 := Lib.decDigits (n / 10 ^ places) ++ tail n places
theorem tail_length (n places : Nat) : (tail n places).length ≤ places + 1 := by
  have := fs_length n places
  unfold tail
  split
  · simp
  · simp; omega
theorem tx_length {n places : Nat} (hn : n < 18446744073709551616) (hp : places ≤ 9) : (tx n places).length ≤ 30 := by
  have h1 : n / 10 ^ places ≤ n := Nat.div_le_self _ _
  have h2 := Lib.nDigits_le20 (n / 10 ^ places) (by omega)
  have h3 := tail_length n places
  unfold tx
  rw [List.length_append, Lib.decDigits_length]
  omega
theorem dec_last {q : Nat} (h : q < 10) : Lib.decDigits q = [dch q] := by rw [Lib.decDigits_one h]; rfl
theorem dec_more {q : Nat} (h : ¬ q < 10) : Lib.decDigits q = Lib.decDigits (q / 10) ++ [dch (q % 10)] := by
  conv => lhs; rw [Lib.decDigits, dif_neg h]
  rfl
end Go.Proofs.Ytcigholifpmdjaa.P

/- Letters and tokens, as plain functions on bytes: no program is named here. -/
import Derived.Test.YtcigholifpmdjaaDatP
import Derived.Test.YtcigholifpmdjaaDecP
namespace Go.Proofs.Ytcigholifpmdjaa.P
open Go.RowKit

/-- A letter that may stand in a row. -/
def isLt (b : UInt8) : Bool := decide (b.toNat = 95 ∨ b.toNat = 46 ∨ b.toNat = 45 ∨ (48 ≤ b.toNat ∧ b.toNat ≤ 57) ∨ (97 ≤ b.toNat ∧ b.toNat ≤ 122) ∨ (65 ≤ b.toNat ∧ b.toNat ≤ 90))
def ltI (x : Int) : Bool := decide (x = 95 ∨ x = 46 ∨ x = 45 ∨ (48 ≤ x ∧ x ≤ 57) ∨ (97 ≤ x ∧ x ≤ 122) ∨ (65 ≤ x ∧ x ≤ 90))
theorem ltI_of (b : UInt8) : ltI ((b.toNat : Nat) : Int) = isLt b := by unfold ltI isLt; rw [decide_eq_decide]; omega
/-- The words that are no names. -/
def words : List (List UInt8) := [[112, 108, 97, 110], [99, 117, 114, 114, 101, 110, 99, 121], [104, 111, 114, 105, 122, 111, 110], [109, 101, 116, 101, 114], [117, 110, 105, 116], [109, 97, 120], [102, 101, 101],
  [99, 104, 97, 114, 103, 101], [102, 114, 111, 109], [116, 111], [97, 108, 108, 111, 119, 97, 110, 99, 101], [98, 108, 111, 99, 107], [103, 114, 97, 100, 117, 97, 116, 101, 100], [118, 111, 108, 117, 109, 101], [117, 112, 116, 111],
  [114, 97, 116, 101], [114, 101, 115, 116], [114, 111, 117, 110, 100], [102, 108, 111, 111, 114], [99, 101, 105, 108], [104, 97, 108, 102, 117, 112], [104, 97, 108, 102, 101, 118, 101, 110], [112, 101, 114, 99, 101, 110, 116], [99, 97, 112],
  [109, 105, 110, 105, 109, 117, 109], [97, 100, 100]]
/-- Whether a row has neither a point nor a stroke. -/
def plain (l : List UInt8) : Bool := l.all fun c => !(c == 46) && !(c == 45)
/-- Of what kind letters are; 0: of none. -/
def kd (l : List UInt8) : Nat :=
  if l = [123] ∨ l = [125] ∨ l = [59] then 5
  else if l = [] ∨ l.all isLt = false then 0
  else if words.contains l then 2
  else if plain l && !isDg (l.getD 0 0) then 1
  else if fm l ≠ 0 then 3
  else if reads l then 4
  else 0
end Go.Proofs.Ytcigholifpmdjaa.P

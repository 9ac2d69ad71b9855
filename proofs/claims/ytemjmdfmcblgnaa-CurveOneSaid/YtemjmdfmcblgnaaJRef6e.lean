/- What the document's answers for layer 6 (poundageref06) come to: Row. -/
import Derived.Test.YtemjmdfmcblgnaaJRef6d
import Derived.Deep.AppendLies
import Derived.Deep.RegionHeldLaw
namespace Go.Proofs.Ytemjmdfmcblgnaa.P
end Go.Proofs.Ytemjmdfmcblgnaa.P
namespace Go.Proofs.Ytemjmdfmcblgnaa.Mm
end Go.Proofs.Ytemjmdfmcblgnaa.Mm
namespace Go.Proofs.Ytemjmdfmcblgnaa.Tl
end Go.Proofs.Ytemjmdfmcblgnaa.Tl
namespace Go.Proofs.Ytemjmdfmcblgnaa.R6
open Go.RowKit Go.Sort P Mm Tl
def rM (m : Meter) : List ByteArray := [m.name, m.unit, t8 m.max]
def rF (f : Fee) : List ByteArray := t8 f.amount :: rW f.win
def rT (t : Tier) : List ByteArray := [t8 t.upto, t8 t.rate]
def rA (a : Adj) : List ByteArray := [t8 a.kind, t8 a.num, t8 a.mode]
def rCh (c : Charge) : List ByteArray := c.meter :: rW c.win ++ [t8 c.allowance, t8 c.block, t8 c.kind, t8 c.mode, t8 c.tiers.length, t8 c.adjusts.length]
def rC (c : Charge) : List ByteArray := rCh c ++ c.tiers.flatMap rT ++ c.adjusts.flatMap rA
def rHead (p : Plan) : List ByteArray := [p.name, p.cur] ++ rW ⟨false, p.a, p.b⟩ ++ [t8 p.meters.length, t8 p.fees.length, t8 p.charges.length]
def row (p : Plan) : List ByteArray := rHead p ++ p.meters.flatMap rM ++ p.fees.flatMap rF ++ p.charges.flatMap rC
/-- What an append to a row of texts of the call's own leaves. -/
structure Appd (W w' : World) (base : Nat) (v : Value) (n m g cap : Nat) (xs news : List Value) : Prop where
  own : w'.ownsRow base 9 1 (.slice (some ⟨g, 0, none⟩) (n + m) cap) (n + m) (xs ++ news)
  grown : W.grownBy w' v.ownBlock
  lies : v.ownBlock = some g ∨ W.heap.size ≤ g
/-- What the walk carries from world to world: the row that is built, what was there, blocks of elements' copies. -/
structure Run (w1 W : World) (bx : List (Nat × Option Obj)) (v : Value) (n : Nat) (xs : List Value) : Prop where
  own : W.ownsRow w1.heap.size 9 1 v n xs
  bel : Below w1.heap.size w1 W
  boxes : ∀ k X, (k, X) ∈ bx → W.heap[k]? = X ∧ k < W.heap.size ∧ v.ownBlock ≠ some k
theorem Run.drop {w1 W : World} {b : Nat × Option Obj} {bx : List (Nat × Option Obj)} {v : Value} {n : Nat} {xs : List Value} (h : Run w1 W (b :: bx) v n xs) : Run w1 W bx v n xs := ⟨h.own, h.bel, fun k X hk => h.boxes k X (.tail _ hk)⟩
theorem Run.call {w1 W W' : World} {bx : List (Nat × Option Obj)} {v : Value} {n : Nat} {xs : List Value} (h : Run w1 W bx v n xs) (b : Below W.heap.size W W') : Run w1 W' bx v n xs :=
  ⟨owns_on h.own b, h.bel.trans (b.mono h.bel.size), fun k X hk => by
    obtain ⟨h1, h2, h3⟩ := h.boxes k X hk
    exact ⟨(b.block k h2).trans h1, Nat.lt_of_lt_of_le h2 b.size, h3⟩⟩
theorem Run.drew {w1 W : World} {bx : List (Nat × Option Obj)} {v : Value} {n : Nat} {xs : List Value} (h : Run w1 W bx v n xs) : Run w1 W.drew bx v n xs := ⟨h.own.drew, h.bel.drew, h.boxes⟩
theorem ChargeAt.on {w w' : World} {b o : Nat} {c : Charge} {ta : Option Addr} {tc : Nat} {aa : Option Addr} {ac : Nat} (h : ChargeAt w b o c ta tc aa ac) (hb : Below w.heap.size w w') : ChargeAt w' b o c ta tc aa ac := by
  have lt := h.lt
  obtain ⟨_, h0, h1, h2, h3, h4, h5, h6, h7, h8, h9, h10, h11, h12, h13, h14, h15⟩ := h
  constructor
  · exact Nat.lt_of_lt_of_le lt hb.size
  all_goals (rw [hb.cell lt]; assumption)
end Go.Proofs.Ytemjmdfmcblgnaa.R6

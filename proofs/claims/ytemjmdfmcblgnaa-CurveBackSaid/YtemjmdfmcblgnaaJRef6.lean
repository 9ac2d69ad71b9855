/- What the document's answers for layer 6 (poundageref06) come to: elements of a plan's rows; Great. -/
import Derived.Test.YtemjmdfmcblgnaaJPureL
import Derived.Test.YtemjmdfmcblgnaaJDatB
import Derived.WalkKit
import Derived.ProofKit
namespace Go.Proofs.Ytemjmdfmcblgnaa.P
end Go.Proofs.Ytemjmdfmcblgnaa.P
namespace Go.Proofs.Ytemjmdfmcblgnaa.Mm
end Go.Proofs.Ytemjmdfmcblgnaa.Mm
namespace Go.Proofs.Ytemjmdfmcblgnaa.R6
open Go.RowKit Go.Sort P Mm
theorem lies0 {w : World} {b o k : Nat} {v : Value} (h : w.cell? ⟨b, o + k + 0, none⟩ = some v) : w.cell? ⟨b, o + k, none⟩ = some v := h
/-- A charge's cells. -/
structure ChargeAt (w : World) (b o : Nat) (c : Charge) (ta : Option Addr) (tc : Nat) (aa : Option Addr) (ac : Nat) : Prop where
  lt : b < w.heap.size
  c0 : w.cell? ⟨b, o, none⟩ = some (.string c.meter)
  c1 : w.cell? ⟨b, o + 1, none⟩ = some (.bool c.win.has)
  c2 : w.cell? ⟨b, o + 2, none⟩ = some (.int .i64 c.win.a.y)
  c3 : w.cell? ⟨b, o + 3, none⟩ = some (.int .i64 c.win.a.m)
  c4 : w.cell? ⟨b, o + 4, none⟩ = some (.int .i64 c.win.a.d)
  c5 : w.cell? ⟨b, o + 5, none⟩ = some (.int .i64 c.win.b.y)
  c6 : w.cell? ⟨b, o + 6, none⟩ = some (.int .i64 c.win.b.m)
  c7 : w.cell? ⟨b, o + 7, none⟩ = some (.int .i64 c.win.b.d)
  c8 : w.cell? ⟨b, o + 8, none⟩ = some (.int .i64 c.allowance)
  c9 : w.cell? ⟨b, o + 9, none⟩ = some (.int .i64 c.block)
  c10 : w.cell? ⟨b, o + 10, none⟩ = some (.int .i64 c.kind)
  c11 : w.cell? ⟨b, o + 11, none⟩ = some (.slice ta c.tiers.length tc)
  c12 : w.cell? ⟨b, o + 12, none⟩ = some (.int .i64 c.mode)
  c13 : w.cell? ⟨b, o + 13, none⟩ = some (.slice aa c.adjusts.length ac)
  c14 : w.cell? ⟨b, o + 14, none⟩ = some (.int .i64 c.line)
  c15 : w.cell? ⟨b, o + 15, none⟩ = some (.int .i64 c.col)
end Go.Proofs.Ytemjmdfmcblgnaa.R6

/- What the document's answers for layer 6 (poundageref06) come to: elements of a plan's rows; Great. -/
import Derived.Test.YtjgogpaedaffkaaGreatJPureS
import Derived.Test.YtjgogpaedaffkaaGreatJDatB
import Derived.WalkKit
import Derived.ProofKit
namespace Go.Proofs.YtjgogpaedaffkaaGreat.P
end Go.Proofs.YtjgogpaedaffkaaGreat.P
namespace Go.Proofs.YtjgogpaedaffkaaGreat.Mm
end Go.Proofs.YtjgogpaedaffkaaGreat.Mm
namespace Go.Proofs.YtjgogpaedaffkaaGreat.R6
open Go.RowKit Go.Sort P Mm
theorem lies0 {w : World} {b o k : Nat} {v : Value} (h : w.cell? ⟨b, o + k + 0, none⟩ = some v) : w.cell? ⟨b, o + k, none⟩ = some v := h
theorem meter_at {w : World} {ao : Option Addr} {len cap : Nat} {xs : List Meter} (h : Row tMeter w ao len cap xs) {j : Nat} {m : Meter} (hj : xs[j]? = some m) :
    ∃ b o, ao = some ⟨b, o, none⟩ ∧ b < w.heap.size ∧ w.cell? ⟨b, o + j * 5, none⟩ = some (.string m.name) ∧ w.cell? ⟨b, o + j * 5 + 1, none⟩ = some (.string m.unit) ∧ w.cell? ⟨b, o + j * 5 + 2, none⟩ = some (.int .i64 m.max) ∧
      w.cell? ⟨b, o + j * 5 + 3, none⟩ = some (.int .i64 m.line) ∧ w.cell? ⟨b, o + j * 5 + 4, none⟩ = some (.int .i64 m.col) ∧ strOk m.name ∧ strOk m.unit ∧ I64 m.max ∧ I64 m.line ∧ I64 m.col := by
  obtain ⟨b, o, cs, h1, h2, ⟨h3, h5⟩, h4⟩ := h.at hj
  subst h3
  exact ⟨b, o, h1, h2, lies0 (h4 0 _ rfl), h4 1 _ rfl, h4 2 _ rfl, h4 3 _ rfl, h4 4 _ rfl, h5⟩
theorem tier_at {w : World} {ao : Option Addr} {len cap : Nat} {xs : List Tier} (h : Row tTier w ao len cap xs) {j : Nat} {m : Tier} (hj : xs[j]? = some m) :
    ∃ b o, ao = some ⟨b, o, none⟩ ∧ b < w.heap.size ∧ w.cell? ⟨b, o + j * 2, none⟩ = some (.int .i64 m.upto) ∧ w.cell? ⟨b, o + j * 2 + 1, none⟩ = some (.int .i64 m.rate) ∧ I64 m.upto ∧ I64 m.rate := by
  obtain ⟨b, o, cs, h1, h2, ⟨h3, h5⟩, h4⟩ := h.at hj
  subst h3
  exact ⟨b, o, h1, h2, lies0 (h4 0 _ rfl), h4 1 _ rfl, h5⟩
theorem adj_at {w : World} {ao : Option Addr} {len cap : Nat} {xs : List Adj} (h : Row tAdj w ao len cap xs) {j : Nat} {m : Adj} (hj : xs[j]? = some m) :
    ∃ b o, ao = some ⟨b, o, none⟩ ∧ b < w.heap.size ∧ w.cell? ⟨b, o + j * 3, none⟩ = some (.int .i64 m.kind) ∧ w.cell? ⟨b, o + j * 3 + 1, none⟩ = some (.int .i64 m.num) ∧ w.cell? ⟨b, o + j * 3 + 2, none⟩ = some (.int .i64 m.mode) ∧ I64 m.kind ∧ I64 m.num ∧ I64 m.mode := by
  obtain ⟨b, o, cs, h1, h2, ⟨h3, h5⟩, h4⟩ := h.at hj
  subst h3
  exact ⟨b, o, h1, h2, lies0 (h4 0 _ rfl), h4 1 _ rfl, h4 2 _ rfl, h5⟩
/-- A charge's cells. -/
structure ChargeAt (w : World) (b o : Nat) (c : Charge) (ta : Option Addr) (tc : Nat) (aa : Option Addr) (ac : Nat) : Prop where
  lt : b < w.heap.size
  c0 : w.cell? ⟨b, o, none⟩ = some (.string c.meter)
  c1 : w.cell? ⟨b, o + 1, none⟩ = some (.bool c.win.has)
  c2 : w.cell? ⟨b, o + 2, none⟩ = some (.int .i64 c.win.a.y)
  c3 : w.cell? ⟨b, o + 3, none⟩ = some (.int .i64 c.win.a.m)
  c4 : w.cell? ⟨b, o + 4, none⟩ = some (.int .i64 c.win.a.d)
  c5 : w.cell? ⟨b, o + 5, none⟩ = some (.int .i64 c.win.b.y)
  c6 : w.cell? ⟨b, o + 6, none⟩ = some (.int .i64 c.win.b.m)
  c7 : w.cell? ⟨b, o + 7, none⟩ = some (.int .i64 c.win.b.d)
  c8 : w.cell? ⟨b, o + 8, none⟩ = some (.int .i64 c.allowance)
  c9 : w.cell? ⟨b, o + 9, none⟩ = some (.int .i64 c.block)
  c10 : w.cell? ⟨b, o + 10, none⟩ = some (.int .i64 c.kind)
  c11 : w.cell? ⟨b, o + 11, none⟩ = some (.slice ta c.tiers.length tc)
  c12 : w.cell? ⟨b, o + 12, none⟩ = some (.int .i64 c.mode)
  c13 : w.cell? ⟨b, o + 13, none⟩ = some (.slice aa c.adjusts.length ac)
  c14 : w.cell? ⟨b, o + 14, none⟩ = some (.int .i64 c.line)
  c15 : w.cell? ⟨b, o + 15, none⟩ = some (.int .i64 c.col)
theorem charge_at {w : World} {ao : Option Addr} {len cap : Nat} {xs : List Charge} (h : Row tCharge w ao len cap xs) {j : Nat} {c : Charge} (hj : xs[j]? = some c) :
    ∃ b o ta tc aa ac, ao = some ⟨b, o, none⟩ ∧ ChargeAt w b (o + j * 16) c ta tc aa ac ∧ ChargeLies w (chargeC c ta tc aa ac) c ta tc aa ac := by
  obtain ⟨b, o, cs, h1, h2, ⟨ta, tc, aa, ac, h3⟩, h4⟩ := h.at hj
  have e := h3.cells
  subst e
  exact ⟨b, o, ta, tc, aa, ac, h1, ⟨h2, lies0 (h4 0 _ rfl), h4 1 _ rfl, h4 2 _ rfl, h4 3 _ rfl, h4 4 _ rfl, h4 5 _ rfl, h4 6 _ rfl, h4 7 _ rfl, h4 8 _ rfl, h4 9 _ rfl, h4 10 _ rfl, h4 11 _ rfl, h4 12 _ rfl, h4 13 _ rfl, h4 14 _ rfl, h4 15 _ rfl⟩, h3⟩
/-- Whether a plan is more than is played. -/
def meterGreat (m : Meter) : Bool := decide (200 < m.name.size) || decide (200 < m.unit.size)
end Go.Proofs.YtjgogpaedaffkaaGreat.R6

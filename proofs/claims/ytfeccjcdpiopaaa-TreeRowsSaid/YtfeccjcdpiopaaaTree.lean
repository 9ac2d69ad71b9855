/- Plans in memory (api.Plan and its parts), and the plain data that they hold. -/
import Derived.Test.YtfeccjcdpiopaaaTy
import Derived.Test.YtfeccjcdpiopaaaRows
namespace Go.Proofs.Ytfeccjcdpiopaaa.Mm
open Go.RowKit Go.Deep Go.ChangeShapes Go.WideShapes P

structure Day where
  y : Int
  m : Int
  d : Int
deriving Inhabited, DecidableEq
structure Win where
  has : Bool
  a : Day
  b : Day
deriving Inhabited, DecidableEq
structure Meter where
  name : ByteArray
  unit : ByteArray
  max : Int
  line : Int
  col : Int
deriving Inhabited
structure Fee where
  amount : Int
  win : Win
  line : Int
  col : Int
deriving Inhabited, DecidableEq
structure Tier where
  upto : Int
  rate : Int
deriving Inhabited, DecidableEq
structure Adj where
  kind : Int
  num : Int
  mode : Int
deriving Inhabited, DecidableEq
structure Charge where
  meter : ByteArray
  win : Win
  allowance : Int
  block : Int
  kind : Int
  tiers : List Tier
  mode : Int
  adjusts : List Adj
  line : Int
  col : Int
deriving Inhabited
structure Plan where
  name : ByteArray
  cur : ByteArray
  a : Day
  b : Day
  meters : List Meter
  fees : List Fee
  charges : List Charge
  line : Int
  col : Int
deriving Inhabited
def dayOk (d : Day) : Prop := I64 d.y ∧ I64 d.m ∧ I64 d.d
def winOk (w : Win) : Prop := dayOk w.a ∧ dayOk w.b
def strOk (s : ByteArray) : Prop := s.size ≤ 9223372036854775807
def meterC (m : Meter) : List Value := [.string m.name, .string m.unit, .int .i64 m.max, .int .i64 m.line, .int .i64 m.col]
def feeC (f : Fee) : List Value := [.int .i64 f.amount, .bool f.win.has, .int .i64 f.win.a.y, .int .i64 f.win.a.m, .int .i64 f.win.a.d, .int .i64 f.win.b.y, .int .i64 f.win.b.m, .int .i64 f.win.b.d, .int .i64 f.line, .int .i64 f.col]
def tierC (t : Tier) : List Value := [.int .i64 t.upto, .int .i64 t.rate]
def adjC (a : Adj) : List Value := [.int .i64 a.kind, .int .i64 a.num, .int .i64 a.mode]
def tMeter : Ty Meter := leaf 5 meterC (fun m => strOk m.name ∧ strOk m.unit ∧ I64 m.max ∧ I64 m.line ∧ I64 m.col) (fun _ => rfl)
def tFee : Ty Fee := leaf 10 feeC (fun f => I64 f.amount ∧ winOk f.win ∧ I64 f.line ∧ I64 f.col) (fun _ => rfl)
def tTier : Ty Tier := leaf 2 tierC (fun t => I64 t.upto ∧ I64 t.rate) (fun _ => rfl)
def tAdj : Ty Adj := leaf 3 adjC (fun a => I64 a.kind ∧ I64 a.num ∧ I64 a.mode) (fun _ => rfl)
def chargeC (c : Charge) (ta : Option Addr) (tc : Nat) (aa : Option Addr) (ac : Nat) : List Value :=
  [.string c.meter, .bool c.win.has, .int .i64 c.win.a.y, .int .i64 c.win.a.m, .int .i64 c.win.a.d, .int .i64 c.win.b.y, .int .i64 c.win.b.m, .int .i64 c.win.b.d,
    .int .i64 c.allowance, .int .i64 c.block, .int .i64 c.kind, .slice ta c.tiers.length tc, .int .i64 c.mode, .slice aa c.adjusts.length ac, .int .i64 c.line, .int .i64 c.col]
structure ChargeLies (w : World) (cs : List Value) (c : Charge) (ta : Option Addr) (tc : Nat) (aa : Option Addr) (ac : Nat) : Prop where
  cells : cs = chargeC c ta tc aa ac
  tiers : Row tTier w ta c.tiers.length tc c.tiers
  adjusts : Row tAdj w aa c.adjusts.length ac c.adjusts
  meter : strOk c.meter
  win : winOk c.win
  nums : I64 c.allowance ∧ I64 c.block ∧ I64 c.kind ∧ I64 c.mode ∧ I64 c.line ∧ I64 c.col
def tCharge : Ty Charge where
  n := 16
  lies := fun w cs c => ∃ ta tc aa ac, ChargeLies w cs c ta tc aa ac
  len := fun ⟨_, _, _, _, h⟩ => by rw [h.cells]; rfl
  keep := fun ⟨ta, tc, aa, ac, h⟩ hb => ⟨ta, tc, aa, ac, h.cells, h.tiers.on hb, h.adjusts.on hb, h.meter, h.win, h.nums⟩
def planC (p : Plan) (ma : Option Addr) (mc : Nat) (fa : Option Addr) (fc : Nat) (ca : Option Addr) (cc : Nat) : List Value :=
  [.string p.name, .string p.cur, .int .i64 p.a.y, .int .i64 p.a.m, .int .i64 p.a.d, .int .i64 p.b.y, .int .i64 p.b.m, .int .i64 p.b.d,
    .slice ma p.meters.length mc, .slice fa p.fees.length fc, .slice ca p.charges.length cc, .int .i64 p.line, .int .i64 p.col]
structure PlanLies (w : World) (cs : List Value) (p : Plan) (ma : Option Addr) (mc : Nat) (fa : Option Addr) (fc : Nat) (ca : Option Addr) (cc : Nat) : Prop where
  cells : cs = planC p ma mc fa fc ca cc
  meters : Row tMeter w ma p.meters.length mc p.meters
  fees : Row tFee w fa p.fees.length fc p.fees
  charges : Row tCharge w ca p.charges.length cc p.charges
  name : strOk p.name ∧ strOk p.cur
  days : dayOk p.a ∧ dayOk p.b
  place : I64 p.line ∧ I64 p.col
theorem PlanLies.on {w w' : World} {cs : List Value} {p : Plan} {ma : Option Addr} {mc : Nat} {fa : Option Addr} {fc : Nat} {ca : Option Addr} {cc : Nat} (h : PlanLies w cs p ma mc fa fc ca cc) (hb : Below w.heap.size w w') : PlanLies w' cs p ma mc fa fc ca cc :=
  ⟨h.cells, h.meters.on hb, h.fees.on hb, h.charges.on hb, h.name, h.days, h.place⟩
def tPlan : Ty Plan where
  n := 13
  lies := fun w cs p => ∃ ma mc fa fc ca cc, PlanLies w cs p ma mc fa fc ca cc
  len := fun ⟨_, _, _, _, _, _, h⟩ => by rw [h.cells]; rfl
  keep := fun ⟨ma, mc, fa, fc, ca, cc, h⟩ hb => ⟨ma, mc, fa, fc, ca, cc, h.on hb⟩
section
variable {H : Type} {enc : TypeId × Value → H} {w : World} {base : Nat} {spare : Nat → Bool} {held : Bool}
theorem fld {Pr : Program} {fs : Array Field} {n : Nat} {cs : List Value} (hf : ∀ (i : Nat) (f : Field), fs[i]? = some f → ∃ y, DataW.trod enc Pr w base spare held n f.type ((cs.drop f.offset).take (Pr.cellsOf f.type)) = some y)
    (i : Nat) (f : Field) (hi : fs[i]? = some f) (k : Nat) (hk : Pr.cellsOf f.type = k) : ∃ y, DataW.trod enc Pr w base spare held n f.type ((cs.drop f.offset).take k) = some y := by
  rw [← hk]; exact hf i f hi
theorem down_day {fuel : Nat} {cs : List Value} {x : DataW H × List MemPlace} (h : DataW.trod enc Try.prog w base spare held fuel 23 cs = some x) :
    ∃ d : Day, cs = [.int .i64 d.y, .int .i64 d.m, .int .i64 d.d] ∧ dayOk d := by
  obtain ⟨hl, n, hf⟩ := down_struct Try.underlying23 h
  obtain ⟨_, h0⟩ := fld hf 0 _ rfl 1 (by kernel_rfl)
  obtain ⟨_, h1⟩ := fld hf 1 _ rfl 1 (by kernel_rfl)
  obtain ⟨_, h2⟩ := fld hf 2 _ rfl 1 (by kernel_rfl)
  obtain ⟨a, e0, g0⟩ := down_int Try.underlying3 h0
  obtain ⟨b, e1, g1⟩ := down_int Try.underlying3 h1
  obtain ⟨c, e2, g2⟩ := down_int Try.underlying3 h2
  rw [show Try.prog.cellsOf 23 = 3 by kernel_rfl] at hl
  exact ⟨⟨a, b, c⟩, piece_all (piece (k := 1) e0 (piece (k := 1) e1 (piece (k := 1) e2 (piece_end hl)))), g0, g1, g2⟩
theorem down_win {fuel : Nat} {cs : List Value} {x : DataW H × List MemPlace} (h : DataW.trod enc Try.prog w base spare held fuel 40 cs = some x) :
    ∃ d : Win, cs = [.bool d.has, .int .i64 d.a.y, .int .i64 d.a.m, .int .i64 d.a.d, .int .i64 d.b.y, .int .i64 d.b.m, .int .i64 d.b.d] ∧ winOk d := by
  obtain ⟨hl, n, hf⟩ := down_struct Try.underlying40 h
  obtain ⟨_, h0⟩ := fld hf 0 _ rfl 1 (by kernel_rfl)
  obtain ⟨_, h1⟩ := fld hf 1 _ rfl 3 (by kernel_rfl)
  obtain ⟨_, h2⟩ := fld hf 2 _ rfl 3 (by kernel_rfl)
  obtain ⟨a, e0⟩ := down_bool Try.underlying4 h0
  obtain ⟨b, e1, g1⟩ := down_day h1
  obtain ⟨c, e2, g2⟩ := down_day h2
  rw [show Try.prog.cellsOf 40 = 7 by kernel_rfl] at hl
  exact ⟨⟨a, b, c⟩, piece_all (piece (k := 1) e0 (piece (k := 3) e1 (piece (k := 3) e2 (piece_end hl)))), g1, g2⟩
theorem down_meter {fuel : Nat} {cs : List Value} {x : DataW H × List MemPlace} (h : DataW.trod enc Try.prog w base spare held fuel 38 cs = some x) : ∃ y, tMeter.lies w cs y := by
  obtain ⟨hl, n, hf⟩ := down_struct Try.underlying38 h
  obtain ⟨_, h0⟩ := fld hf 0 _ rfl 1 (by kernel_rfl)
  obtain ⟨_, h1⟩ := fld hf 1 _ rfl 1 (by kernel_rfl)
  obtain ⟨_, h2⟩ := fld hf 2 _ rfl 1 (by kernel_rfl)
  obtain ⟨_, h3⟩ := fld hf 3 _ rfl 1 (by kernel_rfl)
  obtain ⟨_, h4⟩ := fld hf 4 _ rfl 1 (by kernel_rfl)
  obtain ⟨a, e0, g0⟩ := down_str Try.underlying9 h0
  obtain ⟨b, e1, g1⟩ := down_str Try.underlying9 h1
  obtain ⟨c, e2, g2⟩ := down_int Try.underlying3 h2
  obtain ⟨d, e3, g3⟩ := down_int Try.underlying3 h3
  obtain ⟨e, e4, g4⟩ := down_int Try.underlying3 h4
  rw [show Try.prog.cellsOf 38 = 5 by kernel_rfl] at hl
  exact ⟨⟨a, b, c, d, e⟩, piece_all (piece (k := 1) e0 (piece (k := 1) e1 (piece (k := 1) e2 (piece (k := 1) e3 (piece (k := 1) e4 (piece_end hl)))))), g0, g1, g2, g3, g4⟩
theorem down_fee {fuel : Nat} {cs : List Value} {x : DataW H × List MemPlace} (h : DataW.trod enc Try.prog w base spare held fuel 42 cs = some x) : ∃ y, tFee.lies w cs y := by
  obtain ⟨hl, n, hf⟩ := down_struct Try.underlying42 h
  obtain ⟨_, h0⟩ := fld hf 0 _ rfl 1 (by kernel_rfl)
  obtain ⟨_, h1⟩ := fld hf 1 _ rfl 7 (by kernel_rfl)
  obtain ⟨_, h2⟩ := fld hf 2 _ rfl 1 (by kernel_rfl)
  obtain ⟨_, h3⟩ := fld hf 3 _ rfl 1 (by kernel_rfl)
  obtain ⟨a, e0, g0⟩ := down_int Try.underlying3 h0
  obtain ⟨b, e1, g1⟩ := down_win h1
  obtain ⟨c, e2, g2⟩ := down_int Try.underlying3 h2
  obtain ⟨d, e3, g3⟩ := down_int Try.underlying3 h3
  rw [show Try.prog.cellsOf 42 = 10 by kernel_rfl] at hl
  exact ⟨⟨a, b, c, d⟩, piece_all (piece (k := 1) e0 (piece (k := 7) e1 (piece (k := 1) e2 (piece (k := 1) e3 (piece_end hl))))), g0, g1, g2, g3⟩
theorem down_tier {fuel : Nat} {cs : List Value} {x : DataW H × List MemPlace} (h : DataW.trod enc Try.prog w base spare held fuel 49 cs = some x) : ∃ y, tTier.lies w cs y := by
  obtain ⟨hl, n, hf⟩ := down_struct Try.underlying49 h
  obtain ⟨_, h0⟩ := fld hf 0 _ rfl 1 (by kernel_rfl)
  obtain ⟨_, h1⟩ := fld hf 1 _ rfl 1 (by kernel_rfl)
  obtain ⟨a, e0, g0⟩ := down_int Try.underlying3 h0
  obtain ⟨b, e1, g1⟩ := down_int Try.underlying3 h1
  rw [show Try.prog.cellsOf 49 = 2 by kernel_rfl] at hl
  exact ⟨⟨a, b⟩, piece_all (piece (k := 1) e0 (piece (k := 1) e1 (piece_end hl))), g0, g1⟩
theorem down_adj {fuel : Nat} {cs : List Value} {x : DataW H × List MemPlace} (h : DataW.trod enc Try.prog w base spare held fuel 51 cs = some x) : ∃ y, tAdj.lies w cs y := by
  obtain ⟨hl, n, hf⟩ := down_struct Try.underlying51 h
  obtain ⟨_, h0⟩ := fld hf 0 _ rfl 1 (by kernel_rfl)
  obtain ⟨_, h1⟩ := fld hf 1 _ rfl 1 (by kernel_rfl)
  obtain ⟨_, h2⟩ := fld hf 2 _ rfl 1 (by kernel_rfl)
  obtain ⟨a, e0, g0⟩ := down_int Try.underlying3 h0
  obtain ⟨b, e1, g1⟩ := down_int Try.underlying3 h1
  obtain ⟨c, e2, g2⟩ := down_int Try.underlying3 h2
  rw [show Try.prog.cellsOf 51 = 3 by kernel_rfl] at hl
  exact ⟨⟨a, b, c⟩, piece_all (piece (k := 1) e0 (piece (k := 1) e1 (piece (k := 1) e2 (piece_end hl)))), g0, g1, g2⟩
theorem down_charge {fuel : Nat} {cs : List Value} {x : DataW H × List MemPlace} (h : DataW.trod enc Try.prog w base spare held fuel 46 cs = some x) : ∃ y, tCharge.lies w cs y := by
  obtain ⟨hl, n, hf⟩ := down_struct Try.underlying46 h
  obtain ⟨_, h0⟩ := fld hf 0 _ rfl 1 (by kernel_rfl)
  obtain ⟨_, h1⟩ := fld hf 1 _ rfl 7 (by kernel_rfl)
  obtain ⟨_, h2⟩ := fld hf 2 _ rfl 1 (by kernel_rfl)
  obtain ⟨_, h3⟩ := fld hf 3 _ rfl 1 (by kernel_rfl)
  obtain ⟨_, h4⟩ := fld hf 4 _ rfl 1 (by kernel_rfl)
  obtain ⟨_, h5⟩ := fld hf 5 _ rfl 1 (by kernel_rfl)
  obtain ⟨_, h6⟩ := fld hf 6 _ rfl 1 (by kernel_rfl)
  obtain ⟨_, h7⟩ := fld hf 7 _ rfl 1 (by kernel_rfl)
  obtain ⟨_, h8⟩ := fld hf 8 _ rfl 1 (by kernel_rfl)
  obtain ⟨_, h9⟩ := fld hf 9 _ rfl 1 (by kernel_rfl)
  obtain ⟨a, e0, g0⟩ := down_str Try.underlying9 h0
  obtain ⟨b, e1, g1⟩ := down_win h1
  obtain ⟨c, e2, g2⟩ := down_int Try.underlying3 h2
  obtain ⟨d, e3, g3⟩ := down_int Try.underlying3 h3
  obtain ⟨e, e4, g4⟩ := down_int Try.underlying3 h4
  obtain ⟨ta, tl, tc, ts, e5, g5⟩ := down_row (T := tTier) Try.underlying43 (by kernel_rfl) (by decide) (fun _ _ _ h => down_tier h) h5
  obtain ⟨i, e6, g6⟩ := down_int Try.underlying3 h6
  obtain ⟨aa, al, ac, as', e7, g7⟩ := down_row (T := tAdj) Try.underlying44 (by kernel_rfl) (by decide) (fun _ _ _ h => down_adj h) h7
  obtain ⟨j, e8, g8⟩ := down_int Try.underlying3 h8
  obtain ⟨k, e9, g9⟩ := down_int Try.underlying3 h9
  rw [show Try.prog.cellsOf 46 = 16 by kernel_rfl] at hl
  obtain rfl := g5.hlen
  obtain rfl := g7.hlen
  exact ⟨⟨a, b, c, d, e, ts, i, as', j, k⟩, ta, tc, aa, ac, piece_all (piece (k := 1) e0 (piece (k := 7) e1 (piece (k := 1) e2 (piece (k := 1) e3 (piece (k := 1) e4 (piece (k := 1) e5 (piece (k := 1) e6 (piece (k := 1) e7 (piece (k := 1) e8 (piece (k := 1) e9 (piece_end hl))))))))))),
    g5, g7, g0, g1, g2, g3, g4, g6, g8, g9⟩
theorem down_plan {fuel : Nat} {cs : List Value} {x : DataW H × List MemPlace} (h : DataW.trod enc Try.prog w base spare held fuel 28 cs = some x) : ∃ y, tPlan.lies w cs y := by
  obtain ⟨hl, n, hf⟩ := down_struct Try.underlying28 h
  obtain ⟨_, h0⟩ := fld hf 0 _ rfl 1 (by kernel_rfl)
  obtain ⟨_, h1⟩ := fld hf 1 _ rfl 1 (by kernel_rfl)
  obtain ⟨_, h2⟩ := fld hf 2 _ rfl 3 (by kernel_rfl)
  obtain ⟨_, h3⟩ := fld hf 3 _ rfl 3 (by kernel_rfl)
  obtain ⟨_, h4⟩ := fld hf 4 _ rfl 1 (by kernel_rfl)
  obtain ⟨_, h5⟩ := fld hf 5 _ rfl 1 (by kernel_rfl)
  obtain ⟨_, h6⟩ := fld hf 6 _ rfl 1 (by kernel_rfl)
  obtain ⟨_, h7⟩ := fld hf 7 _ rfl 1 (by kernel_rfl)
  obtain ⟨_, h8⟩ := fld hf 8 _ rfl 1 (by kernel_rfl)
  obtain ⟨a, e0, g0⟩ := down_str Try.underlying9 h0
  obtain ⟨b, e1, g1⟩ := down_str Try.underlying9 h1
  obtain ⟨c, e2, g2⟩ := down_day h2
  obtain ⟨d, e3, g3⟩ := down_day h3
  obtain ⟨ma, ml, mc, ms, e4, g4⟩ := down_row (T := tMeter) Try.underlying24 (by kernel_rfl) (by decide) (fun _ _ _ h => down_meter h) h4
  obtain ⟨fa, fl, fc, fs, e5, g5⟩ := down_row (T := tFee) Try.underlying25 (by kernel_rfl) (by decide) (fun _ _ _ h => down_fee h) h5
  obtain ⟨ca, cl, cc, cs', e6, g6⟩ := down_row (T := tCharge) Try.underlying26 (by kernel_rfl) (by decide) (fun _ _ _ h => down_charge h) h6
  obtain ⟨i, e7, g7⟩ := down_int Try.underlying3 h7
  obtain ⟨j, e8, g8⟩ := down_int Try.underlying3 h8
  rw [show Try.prog.cellsOf 28 = 13 by kernel_rfl] at hl
  obtain rfl := g4.hlen
  obtain rfl := g5.hlen
  obtain rfl := g6.hlen
  exact ⟨⟨a, b, c, d, ms, fs, cs', i, j⟩, ma, mc, fa, fc, ca, cc, piece_all (piece (k := 1) e0 (piece (k := 1) e1 (piece (k := 3) e2 (piece (k := 3) e3 (piece (k := 1) e4 (piece (k := 1) e5 (piece (k := 1) e6 (piece (k := 1) e7 (piece (k := 1) e8 (piece_end hl)))))))))),
    g4, g5, g6, ⟨g0, g1⟩, ⟨g2, g3⟩, g7, g8⟩
set_option maxRecDepth 100000 in
/-- A plan that is an argument. -/
theorem open_plan {d : DataW H} {v : Value} {ps : List MemPlace} {r : Reach} {b0 : Nat} (hv : Value.okWide Try.prog w r b0 28 v) (h : DataW.Trod enc Try.prog w base spare held 28 v d ps) :
    ∃ p ma mc fa fc ca cc, v = .agg (planC p ma mc fa fc ca cc).toArray ∧ PlanLies w (planC p ma mc fa fc ca cc) p ma mc fa fc ca cc := by
  obtain ⟨fuel, hf⟩ := h
  obtain ⟨p, ma, mc, fa, fc, ca, cc, hp⟩ := down_plan hf
  have hx := okWide_struct (P := Try.prog) (t := 28) Try.underlying28 hv
  obtain ⟨cs, hx, _⟩ := hx
  subst hx
  have e : cs.toList = planC p ma mc fa fc ca cc := hp.cells
  refine ⟨p, ma, mc, fa, fc, ca, cc, by rw [← e], ?_⟩
  have := hp
  exact ⟨rfl, this.meters, this.fees, this.charges, this.name, this.days, this.place⟩
end
end Go.Proofs.Ytfeccjcdpiopaaa.Mm

/- Plans without places, and their rows of texts, as plain data: two rows are the same just if the plans are, but for places. -/
import Derived.Test.YtemjmdfmcblgnaaJRef6g
import Derived.OneCell
import Derived.Maps.AppendAt
import Derived.Test.YtemjmdfmcblgnaaJPureL
import Derived.Test.YtemjmdfmcblgnaaJRef6
import Derived.Test.YtemjmdfmcblgnaaRows
import Derived.WalkKit
import Derived.ProofKit
import Derived.BigQuiet
import Derived.Deep.QuietTactic
import Derived.Deep.CutBlock
import Derived.Deep.CutRange
import Derived.Deep.DeepCutAuto
import Derived.Lib.QuietBelow
import Derived.Deep.MidRow
import Derived.Deep.WholeRow
import Derived.Deep.Onto
import Derived.Deep.Quiet
import Derived.Laws.OwnMore
namespace Go.Proofs.Ytemjmdfmcblgnaa.Mm
end Go.Proofs.Ytemjmdfmcblgnaa.Mm
namespace Go.Proofs.Ytemjmdfmcblgnaa.P
end Go.Proofs.Ytemjmdfmcblgnaa.P
namespace Go.Proofs.Ytemjmdfmcblgnaa.R6
end Go.Proofs.Ytemjmdfmcblgnaa.R6
namespace Go.Proofs.Ytemjmdfmcblgnaa.R6
open Go.RowKit Mm P
/-- What a plan in memory is: numbers of 64 bits. -/
structure PlanOk (p : Plan) : Prop where
  days : dayOk p.a ∧ dayOk p.b
  meters : ∀ m ∈ p.meters, I64 m.max
  fees : ∀ f ∈ p.fees, I64 f.amount ∧ winOk f.win
  charges : ∀ c ∈ p.charges, winOk c.win ∧ (I64 c.allowance ∧ I64 c.block ∧ I64 c.kind ∧ I64 c.mode) ∧ (∀ t ∈ c.tiers, I64 t.upto ∧ I64 t.rate) ∧ ∀ a ∈ c.adjusts, I64 a.kind ∧ I64 a.num ∧ I64 a.mode
end Go.Proofs.Ytemjmdfmcblgnaa.R6
/- Plans whose rows a call has made: each in a block of its own, new and free to write. -/
namespace Go.Proofs.Ytemjmdfmcblgnaa.Mm
open Go.RowKit Go.Deep P R6
/-- The rows of a plan. -/
inductive Slot where
  | m
  | f
  | c
  | t (i : Nat)
  | a (i : Nat)
deriving DecidableEq
/-- A row: its elements' type and size, its slice, its cells. -/
structure R where
  e : TypeId
  size : Nat
  a : Option Addr
  n : Nat
  cap : Nat
  xs : List Value
def R.v (r : R) : Value := .slice r.a r.n r.cap
/-- Rows, each owned, each in another block. -/
structure Owns (w : World) (base : Nat) (ρ : Slot → Option R) : Prop where
  own : ∀ s r, ρ s = some r → w.ownsRow base r.e r.size r.v r.n r.xs
  apart : ∀ s t r r' k, ρ s = some r → ρ t = some r' → r.v.ownBlock = some k → r'.v.ownBlock = some k → s = t
theorem Owns.on {w w' : World} {base : Nat} {ρ : Slot → Option R} (h : Owns w base ρ) (b : Below w.heap.size w w') : Owns w' base ρ := ⟨fun s r hs => owns_on (h.own s r hs) b, h.apart⟩
/-- What stands in a plan fits into its cells. -/
structure Fits (p : Plan) : Prop where
  meters : ∀ m ∈ p.meters, strOk m.name ∧ strOk m.unit ∧ I64 m.max ∧ I64 m.line ∧ I64 m.col
  fees : ∀ f ∈ p.fees, I64 f.amount ∧ winOk f.win ∧ I64 f.line ∧ I64 f.col
  charges : ∀ c ∈ p.charges, strOk c.meter ∧ winOk c.win ∧ (I64 c.allowance ∧ I64 c.block ∧ I64 c.kind ∧ I64 c.mode ∧ I64 c.line ∧ I64 c.col) ∧ (∀ t ∈ c.tiers, I64 t.upto ∧ I64 t.rate) ∧ ∀ a ∈ c.adjusts, I64 a.kind ∧ I64 a.num ∧ I64 a.mode
  name : strOk p.name ∧ strOk p.cur
  days : dayOk p.a ∧ dayOk p.b
  place : I64 p.line ∧ I64 p.col
/-- A struct's block. -/
structure Box (W : World) (b : Nat) (cs : List Value) : Prop where
  lt : b < W.heap.size
  cell : ∀ j u, cs[j]? = some u → W.cell? ⟨b, j, none⟩ = some u
  free : ∀ j, W.frozen? ⟨b, j, none⟩ = false
theorem Box.new (w : World) (cs : List Value) (t : TypeId) : Box (w.alloc (.cells cs.toArray t)) w.heap.size cs := by
  refine ⟨by simp, fun j u h => ?_, fun j => ?_⟩
  · rw [World.cell?_alloc_new]
    simpa using h
  · simp
theorem Box.on {W W' : World} {b : Nat} {cs : List Value} (h : Box W b cs) (hb : Below W.heap.size W W') : Box W' b cs :=
  ⟨Nat.lt_of_lt_of_le h.lt hb.size, fun j u k => by rw [hb.cell h.lt]; exact h.cell j u k, fun j => by rw [hb.frozen h.lt]; exact h.free j⟩
theorem Box.grown {W W' : World} {b : Nat} {cs : List Value} (h : Box W b cs) {row : Option Nat} (hg : W.grownBy W' row) (hne : some b ≠ row) : Box W' b cs :=
  ⟨Nat.lt_of_lt_of_le h.lt hg.size, fun j u k => by rw [World.cell?_of_block (w := W) (hg.block b h.lt hne)]; exact h.cell j u k, fun j => by rw [World.frozen?_of_block (w := W) (hg.block b h.lt hne)]; exact h.free j⟩
theorem Box.other {W : World} {b : Nat} {cs : List Value} (h : Box W b cs) {p : Addr} (hp : b ≠ p.block) (u : Value) : Box (W.setCell p u) b cs :=
  ⟨by simpa using h.lt, fun j v k => by rw [World.cell?_of_block (w := W) (Below.heap_setCell _ _ _ _ hp)]; exact h.cell j v k, fun j => by rw [World.frozen?_of_block (w := W) (Below.heap_setCell _ _ _ _ hp)]; exact h.free j⟩
theorem Box.set {W : World} {b : Nat} {cs : List Value} (h : Box W b cs) (i : Nat) (u : Value) : Box (W.setCell ⟨b, i, none⟩ u) b (cs.set i u) := by
  refine ⟨by simpa using h.lt, fun j v k => ?_, fun j => ?_⟩
  · rw [List.getElem?_set] at k
    split at k
    · rename_i e
      subst e
      split at k
      · rename_i hi
        obtain rfl : u = v := by simpa using k
        have := h.cell i (cs[i]'hi) (List.getElem?_eq_getElem hi)
        exact World.cell?_setCell_same (h := this) ..
      · cases k
    · rename_i e
      rw [World.cell?_setCell_other (h := show (⟨b, i, none⟩ : Addr) ≠ ⟨b, j, none⟩ by simp only [ne_eq, Addr.mk.injEq, and_true, true_and]; exact e) ..]
      exact h.cell j v k
  · simpa using h.free j
end Go.Proofs.Ytemjmdfmcblgnaa.Mm
/- Runs of lines in memory (layer 14), and the document's lines (poundageref14): At, Runs. -/
namespace Go.Proofs.Ytemjmdfmcblgnaa.Mm
open Go.RowKit Go.Deep P R6
def rnC (r : Rn Int) : List Value := [.int .i64 r.a, .int .i64 r.b, .int .i64 r.v]
def RnOk (r : Rn Int) : Prop := I64 r.a ∧ I64 r.b ∧ I64 r.v
def tRn : Ty (Rn Int) := leaf 3 rnC RnOk (fun _ => rfl)
theorem rn_at {w : World} {ao : Option Addr} {len cap : Nat} {xs : List (Rn Int)} (h : Row tRn w ao len cap xs) {j : Nat} {r : Rn Int} (hj : xs[j]? = some r) :
    ∃ b o, ao = some ⟨b, o, none⟩ ∧ b < w.heap.size ∧ w.cell? ⟨b, o + j * 3, none⟩ = some (.int .i64 r.a) ∧ w.cell? ⟨b, o + j * 3 + 1, none⟩ = some (.int .i64 r.b) ∧ w.cell? ⟨b, o + j * 3 + 2, none⟩ = some (.int .i64 r.v) ∧ RnOk r := by
  obtain ⟨b, o, cs, h1, h2, ⟨h3, h5⟩, h4⟩ := h.at hj
  subst h3
  exact ⟨b, o, h1, h2, lies0 (h4 0 _ rfl), h4 1 _ rfl, h4 2 _ rfl, h5⟩
theorem int_at {w : World} {bo : Option Addr} {len cap : Nat} {bk : List Int} (h : Row tInt w bo len cap bk) {i : Nat} {v : Int} (hj : bk[i]? = some v) : ∃ b o, bo = some ⟨b, o, none⟩ ∧ b < w.heap.size ∧ w.cell? ⟨b, o + i, none⟩ = some (.int .i64 v) ∧ I64 v := by
  obtain ⟨b, o, cs, h1, h2, ⟨h3, h5⟩, h4⟩ := h.at hj
  subst h3
  refine ⟨b, o, h1, h2, ?_, h5⟩
  have := h4 0 _ rfl
  rw [show tInt.n = 1 from rfl, Nat.mul_one] at this
  exact this
theorem box_row {α : Type} {n : Nat} {cells : α → List Value} {ok : α → Prop} {hn : ∀ x, (cells x).length = n} {W : World} {k : Nat} {xs : List α} (X : Box W k (xs.flatMap cells)) (hok : ∀ x ∈ xs, ok x) (hl : xs.length ≤ 1000) :
    Row (leaf n cells ok hn) W (some ⟨k, 0, none⟩) xs.length xs.length xs :=
  ⟨rfl, Nat.le_refl _, by omega, fun _ => ⟨k, 0, rfl, X.lt, fun j x hj => ⟨cells x, ⟨rfl, hok x (List.mem_of_getElem? hj)⟩, fun i v hi => by
    have := X.cell (j * n + i) v (flat_get hn xs j x i v hj hi)
    show W.cell? ⟨k, 0 + j * n + i, none⟩ = some v
    rw [Nat.zero_add]
    exact this⟩⟩⟩
/-- Within 2^42: what lines' numbers are. -/
def Lim (n : Int) : Prop := -4398046511104 ≤ n ∧ n ≤ 4398046511104
theorem wrap_l {n : Int} (h : I64 n) : IntKind.i64.wrap n = n := by
  unfold I64 at h
  rw [IntKind.wrap_i64 n]
  omega
theorem runs_ok {k : Int} {l : List Int} (hk : Lim k) (hl : l.length ≤ 4398046511104) (hv : ∀ v ∈ l, I64 v) : ∀ r ∈ runsF k l, RnOk r := fun r hr => by
  obtain ⟨h1, h2, h3, h4⟩ := runs_in l k r hr
  unfold Lim at hk
  exact ⟨by unfold I64; omega, by unfold I64; omega, hv _ h4⟩
theorem row_vals {w : World} {ao : Option Addr} {len cap : Nat} {xs : List Int} (h : Row tInt w ao len cap xs) : ∀ v ∈ xs, I64 v := fun v hv => by
  obtain ⟨j, hj, e⟩ := List.mem_iff_getElem.1 hv
  obtain ⟨_, _, _, _, _, h2⟩ := int_at h (show xs[j]? = some v by rw [← e]; exact List.getElem?_eq_getElem hj)
  exact h2
end Go.Proofs.Ytemjmdfmcblgnaa.Mm
namespace Go.Proofs.Ytemjmdfmcblgnaa.R14
open Go.RowKit Go.Sort P Mm R6
end Go.Proofs.Ytemjmdfmcblgnaa.R14
/- The document's lines (poundageref14): Runs. -/
namespace Go.Proofs.Ytemjmdfmcblgnaa.R14
open Go.RowKit Go.Sort P Mm R6
theorem news_at (w : World) (cs : List Value) (t : TypeId) : ∀ j u, cs[j]? = some u → (w.alloc (.cells cs.toArray t)).cell? ((⟨w.heap.size, 0, none⟩ : Addr).add j) = some u := fun j u h => by
  rw [Mm.add_plain, Nat.zero_add]
  exact (Box.new w cs t).cell j u h
end Go.Proofs.Ytemjmdfmcblgnaa.R14
/- Many cells at once: structs loaded and stored whole, rows that are written in the middle, a struct result in a cell. No function of the program is named here. -/
namespace Go.Proofs.Ytemjmdfmcblgnaa.Md
open Go.RowKit Mm
/-- A struct result in a cell. -/
theorem results_mid {P : Program} {fn : Func} {p : Tmp} {ty : TypeId} (h : fn.results = #[.cell p ty]) (tmps : Array Value) (w : World) (b : Nat) (cs : List Value) (d : TypeDesc)
    (hp : tmps.getD p undef = .pointer (some ⟨b, 0, none⟩)) (hc : w.rangeAt b 0 cs) (hu : P.underlying ty = some d) (hd : d.isRow = true) (hi : (P.info? ty).map (·.size) = some cs.length) :
    (results fn tmps).run P w = .ok (.agg cs.toArray) w := by
  have hp' : tmps[p]?.getD undef = .pointer (some ⟨b, 0, none⟩) := by simpa using hp
  simp [results, h, hp', asAddr, run_loadVar_mid w b 0 ty cs d hc hu hd hi]
end Go.Proofs.Ytemjmdfmcblgnaa.Md
/- The document's lines (poundageref14): Fill. -/
namespace Go.Proofs.Ytemjmdfmcblgnaa.R14
open Go.RowKit Go.Sort P Mm R6
def intC (n : Int) : List Value := [.int .i64 n]
theorem info_int : (Try.prog.info? 3).map (fun i => (i.zero, i.size, i.bytes)) = some (some (.int .i64 0), 1, 8) := by kernel_rfl
theorem other_own {w : World} {base : Nat} {e : TypeId} {size : Nat} {v : Value} {n : Nat} {xs : List Value} (h : w.ownsRow base e size v n xs) {k i : Nat} (hk : k < base) (u : Value) : (w.setCell ⟨k, i, none⟩ u).ownsRow base e size v n xs :=
  ownsRow_setCell_below h (a := ⟨k, i, none⟩) hk u
theorem own_ne {w : World} {base : Nat} {e : TypeId} {size : Nat} {v : Value} {n : Nat} {xs : List Value} (h : w.ownsRow base e size v n xs) {k : Nat} (hk : k < base) : some k ≠ v.ownBlock := fun e2 => by
  have := (h.lt k e2.symm).1
  omega
end Go.Proofs.Ytemjmdfmcblgnaa.R14

/- Plain arithmetic on whole numbers of 64 bits: no program is named here. -/
import Derived.RowKit
import Derived.IntWalk
import Derived.Below
import Derived.WalkSmall
import Derived.WalkKit
import Derived.Deep.Slices
import Derived.ChangeArms
import Derived.ChangeOld
import Derived.Laws.AppendOwn
import Derived.Laws.OwnMore
import Derived.Test.YtemjmdfmcblgnaaRows
namespace Go.Proofs.Ytemjmdfmcblgnaa.P
end Go.Proofs.Ytemjmdfmcblgnaa.P
namespace Go.Proofs.Ytemjmdfmcblgnaa.Mm
end Go.Proofs.Ytemjmdfmcblgnaa.Mm
namespace Go.Proofs.Ytemjmdfmcblgnaa.P
open Go.RowKit
theorem hid {p : Prop} (h : p) : Hid p := h
/-- A number that 64 bits hold. -/
def I64 (n : Int) : Prop := -9223372036854775808 ≤ n ∧ n ≤ 9223372036854775807
theorem i64_of_wf {n : Int} (h : (Lit.int .i64 n).wf = true) : I64 n := by
  simp only [Lit.wf, IntKind.min, IntKind.max, IntKind.signed, IntKind.bits, Bool.and_eq_true, decide_eq_true_eq, if_true] at h
  unfold I64; omega
def M1 (x y : Nat) : Nat := x % 4294967296 * (y / 4294967296) * 4294967296
def M2 (x y : Nat) : Nat := x / 4294967296 * (y % 4294967296) * 4294967296
end Go.Proofs.Ytemjmdfmcblgnaa.P
/- Values of structs and slices in memory, and the plain data that they hold: no function of the program is named here. -/
namespace Go.Proofs.Ytemjmdfmcblgnaa.Mm
open Go.RowKit Go.Deep Go.ChangeShapes Go.WideShapes P
/-- A type: how many cells a value of it has, and what data they hold in a world. -/
structure Ty (α : Type) where
  n : Nat
  lies : World → List Value → α → Prop
  len : ∀ {w cs x}, lies w cs x → cs.length = n
  keep : ∀ {w w' cs x}, lies w cs x → Below w.heap.size w w' → lies w' cs x
/-- Rows that lie from a place on. -/
def LieRow {α : Type} (T : Ty α) (w : World) (b o : Nat) (xs : List α) : Prop := b < w.heap.size ∧
  ∀ j x, xs[j]? = some x → ∃ cs, T.lies w cs x ∧ ∀ i v, cs[i]? = some v → w.cell? ⟨b, o + j * T.n + i, none⟩ = some v
/-- What a slice holds. -/
structure Row {α : Type} (T : Ty α) (w : World) (ao : Option Addr) (len cap : Nat) (xs : List α) : Prop where
  hlen : xs.length = len
  hcap : len ≤ cap
  hmax : cap ≤ 9223372036854775807
  lie : xs ≠ [] → ∃ b o, ao = some ⟨b, o, none⟩ ∧ LieRow T w b o xs
theorem LieRow.on {α : Type} {T : Ty α} {w w' : World} {b o : Nat} {xs : List α} (h : LieRow T w b o xs) (hb : Below w.heap.size w w') : LieRow T w' b o xs := by
  refine ⟨Nat.lt_of_lt_of_le h.1 hb.size, fun j x hj => ?_⟩
  obtain ⟨cs, h1, h2⟩ := h.2 j x hj
  refine ⟨cs, T.keep h1 hb, fun i v hi => ?_⟩
  rw [hb.cell h.1]
  exact h2 i v hi
theorem Row.on {α : Type} {T : Ty α} {w w' : World} {ao : Option Addr} {len cap : Nat} {xs : List α} (h : Row T w ao len cap xs) (hb : Below w.heap.size w w') : Row T w' ao len cap xs :=
  ⟨h.hlen, h.hcap, h.hmax, fun n => by
    obtain ⟨b, o, h1, h2⟩ := h.lie n
    exact ⟨b, o, h1, h2.on hb⟩⟩
theorem bel_on {w w1 w2 : World} (a : Below w.heap.size w w1) (b : Below w1.heap.size w1 w2) : Below w.heap.size w w2 := a.trans (b.mono a.size)
theorem bel_alloc (w : World) (x : Obj) : Below w.heap.size w (w.alloc x) := (Below.refl _ _).alloc (Nat.le_refl _) _
theorem Row.alloc {α : Type} {T : Ty α} {w : World} {ao : Option Addr} {len cap : Nat} {xs : List α} (h : Row T w ao len cap xs) (x : Obj) : Row T (w.alloc x) ao len cap xs := h.on (bel_alloc w x)
/-- One element's address and cells. -/
theorem Row.at {α : Type} {T : Ty α} {w : World} {ao : Option Addr} {len cap : Nat} {xs : List α} (h : Row T w ao len cap xs) {j : Nat} {x : α} (hj : xs[j]? = some x) :
    ∃ b o cs, ao = some ⟨b, o, none⟩ ∧ b < w.heap.size ∧ T.lies w cs x ∧ ∀ i v, cs[i]? = some v → w.cell? ⟨b, o + j * T.n + i, none⟩ = some v := by
  obtain ⟨b, o, h1, h2⟩ := h.lie (fun e => by rw [e] at hj; cases hj)
  obtain ⟨cs, h3, h4⟩ := h2.2 j x hj
  exact ⟨b, o, cs, h1, h2.1, h3, h4⟩
/-- A type whose cells are told by the data alone. -/
def leaf {α : Type} (n : Nat) (cells : α → List Value) (ok : α → Prop) (hn : ∀ x, (cells x).length = n) : Ty α where
  n := n
  lies := fun _ cs x => cs = cells x ∧ ok x
  len := fun h => by rw [h.1]; exact hn _
  keep := fun h _ => h
/-- A number, a truth, a text. -/
def tInt : Ty Int := leaf 1 (fun x => [.int .i64 x]) I64 (fun _ => rfl)
/-- What is owned stays owned behind calls that leave old blocks alone. -/
theorem owns_on {w w1 : World} {base : Nat} {e : TypeId} {size n : Nat} {v : Value} {xs : List Value} (h : w.ownsRow base e size v n xs) (b : Below w.heap.size w w1) : w1.ownsRow base e size v n xs := by
  refine ⟨h.1, ?_⟩
  rcases h.2 with h2 | ⟨g, cap, cur, h1, h2, h3, h4⟩
  · exact .inl h2
  · have hg : g < w.heap.size := by
      rcases Nat.lt_or_ge g w.heap.size with k | k
      · exact k
      · rw [Array.getElem?_eq_none k] at h3; cases h3
    exact .inr ⟨g, cap, cur, h1, h2, by rw [b.block g hg]; exact h3, h4⟩
theorem flat_get {α β : Type} {cells : α → List β} {n : Nat} (hn : ∀ x, (cells x).length = n) : ∀ (xs : List α) (j : Nat) (x : α) (i : Nat) (u : β), xs[j]? = some x → (cells x)[i]? = some u → (xs.flatMap cells)[j * n + i]? = some u
  | [], j, _, _, _, hj, _ => by cases j <;> cases hj
  | a :: r, 0, x, i, u, hj, hi => by
    obtain rfl : a = x := by simpa using hj
    rw [List.flatMap_cons, Nat.zero_mul, Nat.zero_add, List.getElem?_append_left (List.getElem?_eq_some_iff.1 hi).1]
    exact hi
  | a :: r, j + 1, x, i, u, hj, hi => by
    rw [List.flatMap_cons, List.getElem?_append_right (by rw [hn, Nat.succ_mul]; omega), hn, show (j + 1) * n + i - n = j * n + i by rw [Nat.succ_mul]; omega]
    exact flat_get hn r j x i u (by simpa using hj) hi
/-- Cells of an owned row of a type whose cells are told by the data alone. -/
theorem row_own {α : Type} {n : Nat} {cells : α → List Value} {ok : α → Prop} {hn : ∀ x, (cells x).length = n} {w : World} {base : Nat} {e : TypeId} {v : Value} {xs : List α} (h : w.ownsRow base e n v xs.length (xs.flatMap cells)) (hok : ∀ x ∈ xs, ok x) :
    ∃ ao cap, v = .slice ao xs.length cap ∧ Row (leaf n cells ok hn) w ao xs.length cap xs := by
  rcases h.2 with ⟨h1, h2⟩ | ⟨g, cap, cur, h1, _, h3, h4, h5, _, _⟩
  · obtain rfl : xs = [] := List.eq_nil_of_length_eq_zero h2
    exact ⟨none, 0, h1, ⟨rfl, Nat.le_refl _, Nat.zero_le _, fun n => absurd rfl n⟩⟩
  · have hg : g < w.heap.size := by
      rcases Nat.lt_or_ge g w.heap.size with k | k
      · exact k
      · rw [Array.getElem?_eq_none k] at h3; cases h3
    subst h1
    refine ⟨some ⟨g, 0, none⟩, cap, rfl, ⟨rfl, h4, by unfold maxLen at h5; omega, fun _ => ⟨g, 0, rfl, hg, fun j x hj => ⟨cells x, ⟨rfl, hok x (List.mem_of_getElem? hj)⟩, fun i u hi => ?_⟩⟩⟩⟩
    have hjl := (List.getElem?_eq_some_iff.1 hj).1
    have hil : i < n := by rw [← hn x]; exact (List.getElem?_eq_some_iff.1 hi).1
    have hlt : j * n + i < xs.length * n := by
      have := Nat.mul_le_mul_right n (Nat.succ_le_of_lt hjl)
      rw [Nat.succ_mul] at this
      omega
    show w.cell? ⟨g, 0 + j * n + i, none⟩ = some u
    rw [Nat.zero_add, h.cellAt _ hlt]
    exact flat_get hn xs j x i u hj hi
section
variable {H : Type} {enc : TypeId × Value → H} {P : Program} {w : World} {base : Nat} {spare : Nat → Bool} {held : Bool}
theorem i64_wf {n : Int} (h : (Lit.int .i64 n).wf = true) : I64 n := by
  unfold I64
  simpa [Lit.wf, IntKind.min, IntKind.max, IntKind.signed, IntKind.bits] using h
theorem down_int {t : TypeId} {fuel : Nat} {cs : List Value} {x : DataW H × List MemPlace} (ht : P.underlying t = some (.int .i64)) (h : DataW.trod enc P w base spare held fuel t cs = some x) : ∃ n, cs = [.int .i64 n] ∧ I64 n := by
  obtain ⟨n, h1, _, h3⟩ := DataW.trod_int ht h
  exact ⟨n, h1, i64_wf h3⟩
theorem cell_plain {w : World} {a : Addr} {v : Value} (h : w.cell? a = some v) : a.spot = none := by
  unfold World.cell? at h
  split at h
  · cases hs : a.spot with
    | none => rfl
    | some k => rw [hs] at h; simp at h
  · cases h
theorem add_plain (b o k : Nat) : (⟨b, o, none⟩ : Addr).add k = ⟨b, o + k, none⟩ := by
  unfold Addr.add
  by_cases h : k = 0
  · subst h; rfl
  · rw [if_neg h]
theorem down_row {α : Type} [Inhabited α] {T : Ty α} {t e : TypeId} {fuel : Nat} {cs : List Value} {x : DataW H × List MemPlace} (ht : P.underlying t = some (.slice e)) (hC : P.cellsOf e = T.n) (hpos : 0 < T.n)
    (ho : ∀ fuel cs x, DataW.trod enc P w base spare held fuel e cs = some x → ∃ y, T.lies w cs y) (h : DataW.trod enc P w base spare held fuel t cs = some x) :
    ∃ ao len cap xs, cs = [.slice ao len cap] ∧ Row T w ao len cap xs := by
  rcases open_slice ht h with ⟨h0, _⟩ | ⟨a, len, cap, m, n, D, Pl, hcs, hb, hl, hm, hmm, hx, hi⟩
  · exact ⟨none, 0, 0, [], h0, ⟨rfl, Nat.le_refl _, Nat.zero_le _, fun n => absurd rfl n⟩⟩
  · have hlm : len ≤ m := by rw [hmm]; split <;> omega
    obtain ⟨f, hf⟩ := choose_lt (n := len) (p := fun i y => ∃ cs', T.lies w cs' y ∧ ∀ k v, cs'[k]? = some v → w.cell? (a.add (i * T.n + k)) = some v) (fun i hil => by
      obtain ⟨cs', h1, h2⟩ := hi i (by omega)
      obtain ⟨y, hy⟩ := ho _ _ _ h2
      rw [hC] at h1
      obtain ⟨_, hlen, hat⟩ := World.cells?_some h1
      refine ⟨y, cs', hy, fun k v hk => ?_⟩
      have hkl : k < T.n := by rw [← hlen]; exact (List.getElem?_eq_some_iff.1 hk).1
      rw [← Go.Deep.add_add, hat k hkl]
      exact hk)
    refine ⟨some a, len, cap, (List.range len).map f, hcs, ⟨by simp, hl, hm, fun hne => ?_⟩⟩
    have h0 : 0 < len := by
      rcases Nat.eq_zero_or_pos len with k | k
      · subst k; simp at hne
      · exact k
    obtain ⟨cs0, l0, g0⟩ := hf 0 h0
    have hlen0 := T.len l0
    have hc0 : cs0[0]? = some (cs0[0]'(by omega)) := List.getElem?_eq_getElem (by omega)
    have hcell := g0 0 _ hc0
    have hsp : a.spot = none := by
      have : a.add (0 * T.n + 0) = a := by rw [Nat.zero_mul]; rfl
      rw [this] at hcell
      exact cell_plain hcell
    obtain ⟨b, o, s⟩ := a
    obtain rfl : s = none := hsp
    refine ⟨b, o, rfl, ?_, fun j y hj => ?_⟩
    · have := World.block_lt_of_cell? w _ hcell
      rw [add_plain] at this
      exact this
    · have hjl : j < len := by
        have := (List.getElem?_eq_some_iff.1 hj).1
        simpa using this
      rw [List.getElem?_map, List.getElem?_range hjl] at hj
      simp only [Option.map_some, Option.some.injEq] at hj
      obtain ⟨cs', g1, g2⟩ := hf j hjl
      rw [hj] at g1
      refine ⟨cs', g1, fun i v hi => ?_⟩
      have := g2 i v hi
      rw [add_plain] at this
      rw [Nat.add_assoc]
      exact this
end
end Go.Proofs.Ytemjmdfmcblgnaa.Mm
/- Plans in memory (api.Plan and its parts), and the plain data that they hold. -/
namespace Go.Proofs.Ytemjmdfmcblgnaa.Mm
open Go.RowKit Go.Deep Go.ChangeShapes Go.WideShapes P
structure Day where
  y : Int
  m : Int
  d : Int
deriving Inhabited, DecidableEq
structure Win where
  has : Bool
  a : Day
  b : Day
deriving Inhabited, DecidableEq
structure Meter where
  name : ByteArray
  unit : ByteArray
  max : Int
  line : Int
  col : Int
deriving Inhabited
structure Fee where
  amount : Int
  win : Win
  line : Int
  col : Int
deriving Inhabited, DecidableEq
structure Tier where
  upto : Int
  rate : Int
deriving Inhabited, DecidableEq
structure Adj where
  kind : Int
  num : Int
  mode : Int
deriving Inhabited, DecidableEq
structure Charge where
  meter : ByteArray
  win : Win
  allowance : Int
  block : Int
  kind : Int
  tiers : List Tier
  mode : Int
  adjusts : List Adj
  line : Int
  col : Int
deriving Inhabited
structure Plan where
  name : ByteArray
  cur : ByteArray
  a : Day
  b : Day
  meters : List Meter
  fees : List Fee
  charges : List Charge
  line : Int
  col : Int
deriving Inhabited
def dayOk (d : Day) : Prop := I64 d.y ∧ I64 d.m ∧ I64 d.d
def winOk (w : Win) : Prop := dayOk w.a ∧ dayOk w.b
def strOk (s : ByteArray) : Prop := s.size ≤ 9223372036854775807
def meterC (m : Meter) : List Value := [.string m.name, .string m.unit, .int .i64 m.max, .int .i64 m.line, .int .i64 m.col]
def feeC (f : Fee) : List Value := [.int .i64 f.amount, .bool f.win.has, .int .i64 f.win.a.y, .int .i64 f.win.a.m, .int .i64 f.win.a.d, .int .i64 f.win.b.y, .int .i64 f.win.b.m, .int .i64 f.win.b.d, .int .i64 f.line, .int .i64 f.col]
def tierC (t : Tier) : List Value := [.int .i64 t.upto, .int .i64 t.rate]
def adjC (a : Adj) : List Value := [.int .i64 a.kind, .int .i64 a.num, .int .i64 a.mode]
def tMeter : Ty Meter := leaf 5 meterC (fun m => strOk m.name ∧ strOk m.unit ∧ I64 m.max ∧ I64 m.line ∧ I64 m.col) (fun _ => rfl)
def tFee : Ty Fee := leaf 10 feeC (fun f => I64 f.amount ∧ winOk f.win ∧ I64 f.line ∧ I64 f.col) (fun _ => rfl)
def tTier : Ty Tier := leaf 2 tierC (fun t => I64 t.upto ∧ I64 t.rate) (fun _ => rfl)
def tAdj : Ty Adj := leaf 3 adjC (fun a => I64 a.kind ∧ I64 a.num ∧ I64 a.mode) (fun _ => rfl)
def chargeC (c : Charge) (ta : Option Addr) (tc : Nat) (aa : Option Addr) (ac : Nat) : List Value :=
  [.string c.meter, .bool c.win.has, .int .i64 c.win.a.y, .int .i64 c.win.a.m, .int .i64 c.win.a.d, .int .i64 c.win.b.y, .int .i64 c.win.b.m, .int .i64 c.win.b.d,
    .int .i64 c.allowance, .int .i64 c.block, .int .i64 c.kind, .slice ta c.tiers.length tc, .int .i64 c.mode, .slice aa c.adjusts.length ac, .int .i64 c.line, .int .i64 c.col]
structure ChargeLies (w : World) (cs : List Value) (c : Charge) (ta : Option Addr) (tc : Nat) (aa : Option Addr) (ac : Nat) : Prop where
  cells : cs = chargeC c ta tc aa ac
  tiers : Row tTier w ta c.tiers.length tc c.tiers
  adjusts : Row tAdj w aa c.adjusts.length ac c.adjusts
  meter : strOk c.meter
  win : winOk c.win
  nums : I64 c.allowance ∧ I64 c.block ∧ I64 c.kind ∧ I64 c.mode ∧ I64 c.line ∧ I64 c.col
def tCharge : Ty Charge where
  n := 16
  lies := fun w cs c => ∃ ta tc aa ac, ChargeLies w cs c ta tc aa ac
  len := fun ⟨_, _, _, _, h⟩ => by rw [h.cells]; rfl
  keep := fun ⟨ta, tc, aa, ac, h⟩ hb => ⟨ta, tc, aa, ac, h.cells, h.tiers.on hb, h.adjusts.on hb, h.meter, h.win, h.nums⟩
def planC (p : Plan) (ma : Option Addr) (mc : Nat) (fa : Option Addr) (fc : Nat) (ca : Option Addr) (cc : Nat) : List Value :=
  [.string p.name, .string p.cur, .int .i64 p.a.y, .int .i64 p.a.m, .int .i64 p.a.d, .int .i64 p.b.y, .int .i64 p.b.m, .int .i64 p.b.d,
    .slice ma p.meters.length mc, .slice fa p.fees.length fc, .slice ca p.charges.length cc, .int .i64 p.line, .int .i64 p.col]
structure PlanLies (w : World) (cs : List Value) (p : Plan) (ma : Option Addr) (mc : Nat) (fa : Option Addr) (fc : Nat) (ca : Option Addr) (cc : Nat) : Prop where
  cells : cs = planC p ma mc fa fc ca cc
  meters : Row tMeter w ma p.meters.length mc p.meters
  fees : Row tFee w fa p.fees.length fc p.fees
  charges : Row tCharge w ca p.charges.length cc p.charges
  name : strOk p.name ∧ strOk p.cur
  days : dayOk p.a ∧ dayOk p.b
  place : I64 p.line ∧ I64 p.col
theorem PlanLies.on {w w' : World} {cs : List Value} {p : Plan} {ma : Option Addr} {mc : Nat} {fa : Option Addr} {fc : Nat} {ca : Option Addr} {cc : Nat} (h : PlanLies w cs p ma mc fa fc ca cc) (hb : Below w.heap.size w w') : PlanLies w' cs p ma mc fa fc ca cc :=
  ⟨h.cells, h.meters.on hb, h.fees.on hb, h.charges.on hb, h.name, h.days, h.place⟩
section
variable {H : Type} {enc : TypeId × Value → H} {w : World} {base : Nat} {spare : Nat → Bool} {held : Bool}
end
end Go.Proofs.Ytemjmdfmcblgnaa.Mm
/- Lines (layer 14) as plain data: values from a number on, and their runs. No program is named here. -/
namespace Go.Proofs.Ytemjmdfmcblgnaa.P
open Go.RowKit Mm
/-- A run: a value, from a number to another one. -/
structure Rn (α : Type) where
  a : Int
  b : Int
  v : α
deriving Inhabited, DecidableEq
section
variable {α : Type}
/-- The runs of values from a number on. -/
def runsF [DecidableEq α] : Int → List α → List (Rn α)
  | _, [] => []
  | k, v :: l => match runsF (k + 1) l with
    | [] => [⟨k, k, v⟩]
    | r :: rs => if r.v = v then ⟨k, r.b, v⟩ :: rs else ⟨k, k, v⟩ :: r :: rs
/-- Runs lie one behind the other from a number on, neighbours have unlike values. -/
def chainR : Int → List (Rn α) → Prop
  | _, [] => True
  | k, r :: rs => r.a = k ∧ r.a ≤ r.b ∧ (∀ z, rs.head? = some z → z.v ≠ r.v) ∧ chainR (r.b + 1) rs
def expR (rs : List (Rn α)) : List α := rs.flatMap fun r => List.replicate (r.b - r.a + 1).toNat r.v
/-- Runs with one more behind them. -/
def addR [DecidableEq α] (rs : List (Rn α)) (r : Rn α) : List (Rn α) := match rs.getLast? with
  | none => [r]
  | some z => if z.v = r.v then rs.dropLast ++ [⟨z.a, r.b, z.v⟩] else rs ++ [r]
theorem runsF_ne [DecidableEq α] {k : Int} {v : α} {l : List α} : runsF k (v :: l) ≠ [] := by
  unfold runsF
  split
  · simp
  · split <;> simp
theorem runsF_head [DecidableEq α] {k : Int} {v : α} {l : List α} : ∃ r rs, runsF k (v :: l) = r :: rs ∧ r.a = k ∧ r.v = v := by
  unfold runsF
  split
  · exact ⟨_, _, rfl, rfl, rfl⟩
  · split
    · exact ⟨_, _, rfl, rfl, rfl⟩
    · exact ⟨_, _, rfl, rfl, rfl⟩
theorem chain_runs [DecidableEq α] : ∀ (l : List α) (k : Int), chainR k (runsF k l)
  | [], _ => trivial
  | v :: l, k => by
    have ih := chain_runs l (k + 1)
    unfold runsF
    split
    · exact ⟨rfl, Int.le_refl _, (fun z h => by cases h), trivial⟩
    · rename_i r rs e
      rw [e] at ih
      obtain ⟨h1, h2, h3, h4⟩ := ih
      split
      · rename_i hv
        exact ⟨rfl, by show k ≤ r.b; omega, fun z hz => by rw [← hv]; exact h3 z hz, h4⟩
      · rename_i hv
        refine ⟨rfl, Int.le_refl _, fun z hz => ?_, h1, h2, h3, h4⟩
        obtain rfl : r = z := by simpa using hz
        exact hv
theorem exp_runs [DecidableEq α] : ∀ (l : List α) (k : Int), expR (runsF k l) = l
  | [], _ => rfl
  | v :: l, k => by
    have ih := exp_runs l (k + 1)
    have ch := chain_runs l (k + 1)
    unfold runsF
    split
    · rename_i e
      rw [e] at ih
      have : l = [] := ih.symm
      subst this
      show List.replicate (k - k + 1).toNat v ++ [] = [v]
      rw [show (k - k + 1).toNat = 1 by omega]
      rfl
    · rename_i r rs e
      rw [e] at ih ch
      obtain ⟨h1, h2, _, _⟩ := ch
      have ih : List.replicate (r.b - r.a + 1).toNat r.v ++ expR rs = l := ih
      split
      · rename_i hv
        show List.replicate (r.b - k + 1).toNat v ++ expR rs = v :: l
        rw [show (r.b - k + 1).toNat = (r.b - r.a + 1).toNat + 1 by omega, List.replicate_succ, List.cons_append, ← ih, hv]
      · show List.replicate (k - k + 1).toNat v ++ expR (r :: rs) = v :: l
        rw [show (k - k + 1).toNat = 1 by omega]
        show v :: (List.replicate (r.b - r.a + 1).toNat r.v ++ expR rs) = v :: l
        rw [ih]
theorem exp_len_pos {r : Rn α} {rs : List (Rn α)} (h : r.a ≤ r.b) : ∃ l, expR (r :: rs) = r.v :: l ∧ l = List.replicate (r.b - r.a).toNat r.v ++ expR rs := by
  refine ⟨_, ?_, rfl⟩
  show List.replicate (r.b - r.a + 1).toNat r.v ++ expR rs = _
  rw [show (r.b - r.a + 1).toNat = (r.b - r.a).toNat + 1 by omega, List.replicate_succ, List.cons_append]
theorem runs_rep [DecidableEq α] (v : α) (l : List α) (hl : ∀ w r, l = w :: r → w ≠ v) : ∀ (n : Nat) (k : Int), runsF k (List.replicate (n + 1) v ++ l) = ⟨k, k + n, v⟩ :: runsF (k + n + 1) l
  | 0, k => by
    show (match runsF (k + 1) l with
      | [] => [(⟨k, k, v⟩ : Rn α)]
      | r :: rs => if r.v = v then (⟨k, r.b, v⟩ : Rn α) :: rs else (⟨k, k, v⟩ : Rn α) :: r :: rs) = _
    rw [show k + ((0 : Nat) : Int) = k by omega]
    cases l with
    | nil => rfl
    | cons w r =>
      obtain ⟨z, zs, e, _, e2⟩ := runsF_head (k := k + 1) (v := w) (l := r)
      rw [e]
      show (if z.v = v then _ else _) = _
      rw [if_neg (by rw [e2]; exact hl w r rfl)]
  | n + 1, k => by
    rw [List.replicate_succ, List.cons_append]
    show (match runsF (k + 1) (List.replicate (n + 1) v ++ l) with
      | [] => [(⟨k, k, v⟩ : Rn α)]
      | r :: rs => if r.v = v then (⟨k, r.b, v⟩ : Rn α) :: rs else (⟨k, k, v⟩ : Rn α) :: r :: rs) = _
    rw [runs_rep v l hl n (k + 1)]
    show (if v = v then _ else _) = _
    rw [if_pos rfl]
    show (⟨k, k + 1 + (n : Int), v⟩ : Rn α) :: runsF (k + 1 + n + 1) l = ⟨k, k + ((n + 1 : Nat) : Int), v⟩ :: runsF (k + ((n + 1 : Nat) : Int) + 1) l
    rw [show k + 1 + (n : Int) = k + ((n + 1 : Nat) : Int) by omega]
/-- Runs as few as can be are the runs of what they say. -/
theorem runs_exp [DecidableEq α] : ∀ (rs : List (Rn α)) (k : Int), chainR k rs → runsF k (expR rs) = rs
  | [], _, _ => rfl
  | r :: rs, k, ⟨h1, h2, h3, h4⟩ => by
    have ih := runs_exp rs (r.b + 1) h4
    have e : expR (r :: rs) = List.replicate ((r.b - r.a).toNat + 1) r.v ++ expR rs := by
      show List.replicate (r.b - r.a + 1).toNat r.v ++ expR rs = _
      rw [show (r.b - r.a + 1).toNat = (r.b - r.a).toNat + 1 by omega]
    rw [e, runs_rep]
    · rw [show k + ((r.b - r.a).toNat : Int) = r.b by omega, ih]
      obtain ⟨a, b, v⟩ := r
      have : a = k := h1
      subst this
      rfl
    · intro w l hw e2
      cases rs with
      | nil => cases hw
      | cons z zs =>
        obtain ⟨l', e3, _⟩ := exp_len_pos (r := z) (rs := zs) h4.2.1
        rw [e3] at hw
        have : z.v = w := by injection hw
        exact h3 z rfl (this.trans e2)
theorem chain_snoc {r : Rn α} (hr : r.a ≤ r.b) : ∀ (rs : List (Rn α)) (k : Int), chainR k rs → (∀ z, rs.getLast? = some z → z.b + 1 = r.a ∧ z.v ≠ r.v) → (rs = [] → r.a = k) → chainR k (rs ++ [r])
  | [], k, _, _, h => ⟨h rfl, hr, (fun z hz => by cases hz), trivial⟩
  | [z], k, ⟨h1, h2, _, _⟩, h, _ => by
    obtain ⟨g1, g2⟩ := h z rfl
    refine ⟨h1, h2, fun y hy => ?_, g1.symm, hr, (fun y hy => by cases hy), trivial⟩
    obtain rfl : r = y := by simpa using hy
    exact fun e => g2 e.symm
  | z :: y :: rs, k, ⟨h1, h2, h3, h4⟩, h, _ => by
    refine ⟨h1, h2, fun x hx => h3 x hx, ?_⟩
    exact chain_snoc hr (y :: rs) (z.b + 1) h4 (fun x hx => h x (by rw [List.getLast?_cons_cons]; exact hx)) (fun e => by cases e)
theorem chain_long {b : Int} : ∀ (rs : List (Rn α)) (z : Rn α) (k : Int), chainR k (rs ++ [z]) → z.a ≤ b → chainR k (rs ++ [⟨z.a, b, z.v⟩])
  | [], z, k, ⟨h1, _, _, _⟩, h => ⟨h1, h, (fun y hy => by cases hy), trivial⟩
  | [y], z, k, ⟨h1, h2, h3, h4⟩, h => ⟨h1, h2, fun x hx => by
      obtain rfl := Option.some.inj hx
      exact h3 z rfl, chain_long [] z (y.b + 1) h4 h⟩
  | y :: x :: rs, z, k, ⟨h1, h2, h3, h4⟩, h => ⟨h1, h2, fun w hw => h3 w hw, chain_long (x :: rs) z (y.b + 1) h4 h⟩
theorem exp_app (a b : List (Rn α)) : expR (a ++ b) = expR a ++ expR b := List.flatMap_append
/-- Where runs end. -/
theorem chain_end : ∀ (rs : List (Rn α)) (k : Int) (z : Rn α), chainR k rs → rs.getLast? = some z → z.b + 1 = k + (expR rs).length
  | [], _, _, _, h => by cases h
  | [r], k, z, ⟨h1, h2, _, _⟩, h => by
    obtain rfl : r = z := by simpa using h
    show r.b + 1 = k + ((List.replicate (r.b - r.a + 1).toNat r.v ++ []).length : Nat)
    rw [List.append_nil, List.length_replicate]
    omega
  | r :: y :: rs, k, z, ⟨h1, h2, _, h4⟩, h => by
    have := chain_end (y :: rs) (r.b + 1) z h4 (by rwa [List.getLast?_cons_cons] at h)
    show z.b + 1 = k + ((List.replicate (r.b - r.a + 1).toNat r.v ++ expR (y :: rs)).length : Nat)
    rw [List.length_append, List.length_replicate]
    omega
/-- A run more, right behind. -/
theorem add_chain [DecidableEq α] {rs : List (Rn α)} {r : Rn α} {k : Int} (h : chainR k rs) (hr : r.a ≤ r.b) (ha : r.a = k + (expR rs).length) : chainR k (addR rs r) ∧ expR (addR rs r) = expR rs ++ List.replicate (r.b - r.a + 1).toNat r.v := by
  unfold addR
  cases hl : rs.getLast? with
  | none =>
    have : rs = [] := List.getLast?_eq_none_iff.1 hl
    subst this
    refine ⟨⟨by show r.a = k; rw [ha]; show k + ((0 : Nat) : Int) = k; omega, hr, (fun z hz => by cases hz), trivial⟩, ?_⟩
    show List.replicate (r.b - r.a + 1).toNat r.v ++ [] = [] ++ _
    rw [List.append_nil, List.nil_append]
  | some z =>
    have he := chain_end rs k z h hl
    have hs : rs = rs.dropLast ++ [z] := by
      obtain ⟨ys, ey⟩ := List.getLast?_eq_some_iff.1 hl
      rw [ey, List.dropLast_concat]
    show chainR k (if z.v = r.v then rs.dropLast ++ [⟨z.a, r.b, z.v⟩] else rs ++ [r]) ∧ expR (if z.v = r.v then rs.dropLast ++ [⟨z.a, r.b, z.v⟩] else rs ++ [r]) = _
    split
    · rename_i hv
      have hz : z.a ≤ z.b := by
        have : ∀ (l : List (Rn α)) (k : Int), chainR k (l ++ [z]) → z.a ≤ z.b := by
          intro l
          induction l with
          | nil => intro k h; exact h.2.1
          | cons y l ih => intro k h; exact ih _ h.2.2.2
        rw [hs] at h
        exact this _ _ h
      refine ⟨?_, ?_⟩
      · rw [hs] at h
        have := chain_long (b := r.b) rs.dropLast z k h (by omega)
        exact this
      · rw [exp_app]
        conv => rhs; rw [hs, exp_app]
        rw [List.append_assoc]
        congr 1
        show List.replicate (r.b - z.a + 1).toNat z.v ++ [] = List.replicate (z.b - z.a + 1).toNat z.v ++ [] ++ List.replicate (r.b - r.a + 1).toNat r.v
        rw [List.append_nil, List.append_nil, hv, List.replicate_append_replicate]
        congr 1
        omega
    · rename_i hv
      refine ⟨chain_snoc hr rs k h (fun y hy => ?_) (fun e => by rw [e] at hl; cases hl), ?_⟩
      · rw [hl] at hy
        obtain rfl := Option.some.inj hy
        exact ⟨by omega, hv⟩
      · rw [exp_app]
        congr 1
        show List.replicate (r.b - r.a + 1).toNat r.v ++ [] = _
        rw [List.append_nil]
/-- The same, in the words of what runs say. -/
theorem add_runs [DecidableEq α] (k : Int) (l : List α) (v : α) (n : Nat) : addR (runsF k l) ⟨k + l.length, k + l.length + n, v⟩ = runsF k (l ++ List.replicate (n + 1) v) := by
  have h := add_chain (r := ⟨k + l.length, k + l.length + n, v⟩) (chain_runs l k) (by show k + (l.length : Int) ≤ k + l.length + n; omega) (by rw [exp_runs])
  have e := runs_exp _ _ h.1
  rw [h.2, exp_runs] at e
  rw [← e]
  show runsF k (l ++ List.replicate (k + (l.length : Int) + n - (k + l.length) + 1).toNat v) = _
  rw [show (k + (l.length : Int) + n - (k + l.length) + 1).toNat = n + 1 by omega]
theorem add_one [DecidableEq α] (k : Int) (l : List α) (v : α) : addR (runsF k l) ⟨k + l.length, k + l.length, v⟩ = runsF k (l ++ [v]) := by
  have := add_runs k l v 0
  rwa [show k + (l.length : Int) + ((0 : Nat) : Int) = k + l.length by omega] at this
theorem runs_take [DecidableEq α] (k : Int) (l : List α) {i : Nat} {v : α} (h : l[i]? = some v) : runsF k (l.take (i + 1)) = addR (runsF k (l.take i)) ⟨k + i, k + i, v⟩ := by
  have hi := (List.getElem?_eq_some_iff.1 h).1
  have e : (l.take i).length = i := by rw [List.length_take]; omega
  have := add_one k (l.take i) v
  rw [e] at this
  rw [this, List.take_add_one, h]
  rfl
theorem add_last [DecidableEq α] (rs : List (Rn α)) (r : Rn α) : ∃ ys a, addR rs r = ys ++ [⟨a, r.b, r.v⟩] := by
  unfold addR
  split
  · exact ⟨[], r.a, rfl⟩
  · rename_i z _
    split
    · rename_i h
      exact ⟨rs.dropLast, z.a, by rw [h]⟩
    · exact ⟨rs, r.a, rfl⟩
theorem add_same [DecidableEq α] {ys : List (Rn α)} {z r : Rn α} (h : z.v = r.v) : addR (ys ++ [z]) r = ys ++ [⟨z.a, r.b, z.v⟩] := by
  unfold addR
  rw [List.getLast?_concat]
  show (if z.v = r.v then _ else _) = _
  rw [if_pos h, List.dropLast_concat]
theorem add_new [DecidableEq α] {ys : List (Rn α)} {z r : Rn α} (h : z.v ≠ r.v) : addR (ys ++ [z]) r = ys ++ [z] ++ [r] := by
  unfold addR
  rw [List.getLast?_concat]
  show (if z.v = r.v then _ else _) = _
  rw [if_neg h]
theorem runs_last [DecidableEq α] (k : Int) (l : List α) {i : Nat} {v : α} (h : l[i]? = some v) : ∃ ys a, runsF k (l.take (i + 1)) = ys ++ [⟨a, k + i, v⟩] := by
  rw [runs_take k l h]
  exact add_last _ _
theorem runs_len [DecidableEq α] : ∀ (l : List α) (k : Int), (runsF k l).length ≤ l.length
  | [], _ => Nat.le_refl _
  | v :: l, k => by
    have := runs_len l (k + 1)
    unfold runsF
    split
    · simp
    · rename_i r rs e
      rw [e] at this
      rw [List.length_cons] at this
      split
      · rw [List.length_cons, List.length_cons]; omega
      · rw [List.length_cons, List.length_cons, List.length_cons]; omega
theorem runs_in [DecidableEq α] : ∀ (l : List α) (k : Int), ∀ r ∈ runsF k l, k ≤ r.a ∧ r.a ≤ r.b ∧ r.b < k + l.length ∧ r.v ∈ l
  | [], _, r, h => by cases h
  | v :: l, k, r, h => by
    have ih := runs_in l (k + 1)
    rw [List.length_cons]
    unfold runsF at h
    split at h
    · rw [List.mem_singleton] at h
      subst h
      exact ⟨Int.le_refl _, Int.le_refl _, by show k < _; omega, List.mem_cons_self ..⟩
    · rename_i z zs e
      rw [e] at ih
      split at h
      · rcases List.mem_cons.1 h with rfl | h
        · have := ih z (List.mem_cons_self ..)
          exact ⟨Int.le_refl _, by show k ≤ z.b; omega, by show z.b < _; omega, List.mem_cons_self ..⟩
        · have := ih r (List.mem_cons_of_mem _ h)
          exact ⟨by omega, this.2.1, by omega, List.mem_cons_of_mem _ this.2.2.2⟩
      · rcases List.mem_cons.1 h with rfl | h
        · exact ⟨Int.le_refl _, Int.le_refl _, by show k < _; omega, List.mem_cons_self ..⟩
        · have := ih r h
          exact ⟨by omega, this.2.1, by omega, List.mem_cons_of_mem _ this.2.2.2⟩
/-- The value at a number. -/
def atL (k : Int) (l : List α) (x : Int) : Option α := if x < k then none else l[(x - k).toNat]?
/-- What comes of a value that may not be. -/
def vO (o : Option Int) : Int := o.getD 0
def bO (o : Option Int) : Bool := o.isSome
def spanR (rs : List (Rn α)) : Int × Int × Bool := match rs with
  | [] => (0, 0, false)
  | r :: _ => (r.a, (rs.getLast?.getD r).b, true)
theorem span_runs [DecidableEq α] (k : Int) (l : List α) : spanR (runsF k l) = if l = [] then (0, 0, false) else (k, k + l.length - 1, true) := by
  cases l with
  | nil => rfl
  | cons v l =>
    obtain ⟨r, rs, e1, e2, _⟩ := runsF_head (k := k) (v := v) (l := l)
    have hc := chain_runs (v :: l) k
    have he := exp_runs (v :: l) k
    rw [if_neg (by simp)]
    rw [e1] at hc he ⊢
    obtain ⟨z, hz⟩ : ∃ z, (r :: rs).getLast? = some z := by
      cases h : (r :: rs).getLast? with
      | none => rw [List.getLast?_eq_none_iff] at h; cases h
      | some z => exact ⟨z, rfl⟩
    have hd := chain_end _ k z hc hz
    rw [he] at hd
    show (r.a, ((r :: rs).getLast?.getD r).b, true) = _
    rw [hz, e2]
    show (k, z.b, true) = _
    rw [show z.b = k + ((v :: l).length : Int) - 1 by omega]
end
end Go.Proofs.Ytemjmdfmcblgnaa.P
/- Curves (layer 15) as plain data: groups of plateaus. No program is named here. -/
namespace Go.Proofs.Ytemjmdfmcblgnaa.P
open Go.RowKit Mm
/-- A group: from, value, width, rise, count. -/
structure Gp where
  f : Int
  v : Int
  w : Int
  r : Int
  c : Int
deriving Inhabited, DecidableEq
/-- How many of the following plateaus go on so wide, and rise so much, behind one. -/
def extN (w r : Int) : Int → Int → List (Rn Int) → Nat
  | _, _, [] => 0
  | a, v, q :: l => if q.a = a + w ∧ q.v = v + r then extN w r q.a q.v l + 1 else 0
def grpN : Nat → List (Rn Int) → List Gp
  | 0, _ => []
  | _ + 1, [] => []
  | _ + 1, [p] => [⟨p.a, p.v, 0, 0, 1⟩]
  | n + 1, p :: q :: l => ⟨p.a, p.v, q.a - p.a, q.v - p.v, (extN (q.a - p.a) (q.v - p.v) q.a q.v l : Int) + 2⟩ :: grpN n (l.drop (extN (q.a - p.a) (q.v - p.v) q.a q.v l))
/-- The groups of plateaus. -/
def grp (rs : List (Rn Int)) : List Gp := grpN rs.length rs
def curG (l : List Int) : List Gp := grp (runsF 0 l)
def bigB (n : Int) : Bool := decide (2305843009213693952 < n) || decide (n < -2305843009213693952)
/-- Whether numbers have a curve. -/
def curB (l : List Int) : Bool := decide (0 < l.length) && decide (l.length ≤ 2001) && !l.any bigB
theorem extN_le (w r : Int) : ∀ (l : List (Rn Int)) (a v : Int), extN w r a v l ≤ l.length
  | [], _, _ => Nat.le_refl _
  | q :: l, a, v => by
    have := extN_le w r l q.a q.v
    unfold extN
    rw [List.length_cons]
    split <;> omega
theorem grpN_more : ∀ (n m : Nat) (rs : List (Rn Int)), rs.length ≤ n → rs.length ≤ m → grpN n rs = grpN m rs
  | 0, m, rs, h, _ => by
    obtain rfl : rs = [] := List.eq_nil_of_length_eq_zero (by omega)
    cases m <;> rfl
  | n + 1, 0, rs, _, h => by
    obtain rfl : rs = [] := List.eq_nil_of_length_eq_zero (by omega)
    rfl
  | n + 1, m + 1, [], _, _ => rfl
  | n + 1, m + 1, [p], _, _ => rfl
  | n + 1, m + 1, p :: q :: l, h1, h2 => by
    rw [List.length_cons, List.length_cons] at h1 h2
    show _ :: grpN n _ = _ :: grpN m _
    rw [grpN_more n m _ (by rw [List.length_drop]; omega) (by rw [List.length_drop]; omega)]
theorem grp_nil : grp [] = [] := rfl
theorem grp_one (p : Rn Int) : grp [p] = [⟨p.a, p.v, 0, 0, 1⟩] := rfl
theorem grp_two (p q : Rn Int) (l : List (Rn Int)) : grp (p :: q :: l) = ⟨p.a, p.v, q.a - p.a, q.v - p.v, (extN (q.a - p.a) (q.v - p.v) q.a q.v l : Int) + 2⟩ :: grp (l.drop (extN (q.a - p.a) (q.v - p.v) q.a q.v l)) := by
  show _ :: grpN (l.length + 1) _ = _ :: grpN _ _
  rw [grpN_more _ _ _ (by rw [List.length_drop]; omega) (Nat.le_refl _)]
/-- A group's number at a quantity. -/
def valG (g : Gp) (x : Int) : Int := if g.w < 1 then g.v else g.v + g.r * min ((x - g.f) / g.w) (g.c - 1)
/-- The last group's, or plateau's, that begins not above. -/
def atG (x : Int) : List Gp → Option Int → Option Int
  | [], o => o
  | g :: gs, o => atG x gs (if g.f ≤ x then some (valG g x) else o)
def atR (x : Int) : List (Rn Int) → Option Int → Option Int
  | [], o => o
  | r :: rs, o => atR x rs (if r.a ≤ x then some r.v else o)
theorem atR_app (x : Int) : ∀ (a b : List (Rn Int)) (o : Option Int), atR x (a ++ b) o = atR x b (atR x a o)
  | [], _, _ => rfl
  | _ :: a, b, _ => atR_app x a b _
theorem ext_far (x w r : Int) : ∀ (l : List (Rn Int)) (a v : Int) (o : Option Int), 0 < w → x < a + w → atR x (l.take (extN w r a v l)) o = o
  | [], _, _, _, _, _ => rfl
  | q :: l, a, v, o, hw, h => by
    unfold extN
    split
    · rename_i e
      rw [List.take_succ_cons]
      show atR x (l.take _) (if q.a ≤ x then some q.v else o) = o
      rw [if_neg (by omega)]
      exact ext_far x w r l q.a q.v o hw (by omega)
    · rfl
theorem ext_val (x w r : Int) : ∀ (l : List (Rn Int)) (a v : Int), 0 < w → a ≤ x → atR x (l.take (extN w r a v l)) (some v) = some (v + r * min ((x - a) / w) (extN w r a v l))
  | [], a, v, hw, h => by
    show some v = some (v + r * min ((x - a) / w) ((0 : Nat) : Int))
    have := Int.ediv_nonneg (show 0 ≤ x - a by omega) (show 0 ≤ w by omega)
    rw [Int.min_eq_right (by omega)]
    simp
  | q :: l, a, v, hw, h => by
    unfold extN
    split
    · rename_i e
      rw [List.take_succ_cons]
      show atR x (l.take _) (if q.a ≤ x then some q.v else some v) = _
      by_cases k : q.a ≤ x
      · rw [if_pos k, ext_val x w r l q.a q.v hw k]
        have e1 : (x - a) / w = (x - q.a) / w + 1 := by
          rw [show x - a = (x - q.a) + w * 1 by omega, Int.add_mul_ediv_left _ _ (by omega)]
        rw [e1, e.2]
        have e2 : min ((x - q.a) / w + 1) (((extN w r q.a (v + r) l + 1 : Nat)) : Int) = min ((x - q.a) / w) (extN w r q.a (v + r) l) + 1 := by omega
        rw [e2, Int.mul_add]
        congr 1
        omega
      · rw [if_neg k, ext_far x w r l q.a q.v _ hw (by omega)]
        have e1 : (x - a) / w = 0 := Int.ediv_eq_zero_of_lt (by omega) (by omega)
        rw [e1, Int.min_eq_left (by omega), Int.mul_zero, Int.add_zero]
    · have := Int.ediv_nonneg (show 0 ≤ x - a by omega) (show 0 ≤ w by omega)
      rw [Int.min_eq_right (by omega)]
      show some v = _
      simp
/-- Plateaus begin one behind the other. -/
def incR : List (Rn Int) → Prop
  | [] => True
  | [_] => True
  | p :: q :: l => p.a < q.a ∧ incR (q :: l)
theorem inc_tail {p : Rn Int} {l : List (Rn Int)} (h : incR (p :: l)) : incR l := by
  cases l with
  | nil => trivial
  | cons q l => exact h.2
theorem inc_drop : ∀ (n : Nat) (l : List (Rn Int)), incR l → incR (l.drop n)
  | 0, _, h => h
  | _ + 1, [], _ => trivial
  | n + 1, _ :: l, h => inc_drop n l (inc_tail h)
theorem chain_inc : ∀ (rs : List (Rn Int)) (k : Int), chainR k rs → incR rs
  | [], _, _ => trivial
  | [_], _, _ => trivial
  | p :: q :: l, k, ⟨h1, h2, _, h4⟩ => ⟨by have := h4.1; omega, chain_inc (q :: l) _ h4⟩
theorem inc_far (x : Int) : ∀ (l : List (Rn Int)) (p : Rn Int) (o : Option Int), incR (p :: l) → x < p.a → atR x l o = o
  | [], _, _, _, _ => rfl
  | q :: l, p, o, h, hx => by
    show atR x l (if q.a ≤ x then some q.v else o) = o
    rw [if_neg (by have := h.1; omega)]
    exact inc_far x l q o h.2 (by have := h.1; omega)
/-- What groups say is what their plateaus say. -/
theorem atG_grp (x : Int) : ∀ (n : Nat) (rs : List (Rn Int)) (o : Option Int), rs.length ≤ n → incR rs → atG x (grp rs) o = atR x rs o
  | 0, rs, o, h, _ => by
    obtain rfl : rs = [] := List.eq_nil_of_length_eq_zero (by omega)
    rfl
  | n + 1, [], _, _, _ => rfl
  | n + 1, [p], o, _, _ => by
    rw [grp_one]
    show (if p.a ≤ x then some (valG ⟨p.a, p.v, 0, 0, 1⟩ x) else o) = if p.a ≤ x then some p.v else o
    rw [show valG ⟨p.a, p.v, 0, 0, 1⟩ x = p.v from rfl]
  | n + 1, p :: q :: l, o, h, hi => by
    rw [List.length_cons, List.length_cons] at h
    obtain ⟨k, hk⟩ : ∃ k, k = extN (q.a - p.a) (q.v - p.v) q.a q.v l := ⟨_, rfl⟩
    rw [grp_two, ← hk]
    have hw : 0 < q.a - p.a := by have := hi.1; omega
    have ih := atG_grp x n (l.drop k)
    show atG x (grp (l.drop k)) (if p.a ≤ x then some (valG ⟨p.a, p.v, q.a - p.a, q.v - p.v, (k : Int) + 2⟩ x) else o) = _
    rw [ih _ (by rw [List.length_drop]; omega) (inc_drop k l (inc_tail (inc_tail hi)))]
    have e : p :: q :: l = [p] ++ ([q] ++ (l.take k ++ l.drop k)) := by rw [List.take_append_drop]; rfl
    rw [e, atR_app, atR_app, atR_app]
    congr 1
    show _ = atR x (l.take k) (if q.a ≤ x then some q.v else if p.a ≤ x then some p.v else o)
    by_cases h1 : q.a ≤ x
    · rw [if_pos h1, if_pos (by omega), hk, ext_val x _ _ l q.a q.v hw h1, ← hk]
      unfold valG
      rw [if_neg (by show ¬ q.a - p.a < 1; omega)]
      show some (p.v + (q.v - p.v) * min ((x - p.a) / (q.a - p.a)) ((k : Int) + 2 - 1)) = _
      have e1 : (x - p.a) / (q.a - p.a) = (x - q.a) / (q.a - p.a) + 1 := by
        rw [show x - p.a = (x - q.a) + (q.a - p.a) * 1 by omega, Int.add_mul_ediv_left _ _ (by omega)]
      rw [e1, show min ((x - q.a) / (q.a - p.a) + 1) ((k : Int) + 2 - 1) = min ((x - q.a) / (q.a - p.a)) (k : Int) + 1 by omega, Int.mul_add]
      congr 1
      omega
    · rw [if_neg h1, hk, ext_far x _ _ l q.a q.v _ hw (by omega)]
      by_cases h2 : p.a ≤ x
      · rw [if_pos h2, if_pos h2]
        unfold valG
        rw [if_neg (by show ¬ q.a - p.a < 1; omega)]
        show some (p.v + (q.v - p.v) * min ((x - p.a) / (q.a - p.a)) ((extN (q.a - p.a) (q.v - p.v) q.a q.v l : Int) + 2 - 1)) = _
        rw [Int.ediv_eq_zero_of_lt (by omega) (by omega), Int.min_eq_left (by omega), Int.mul_zero, Int.add_zero]
      · rw [if_neg h2, if_neg h2]
/-- What plateaus say is what numbers are. -/
theorem atR_runs : ∀ (rs : List (Rn Int)) (k x : Int) (o : Option Int), chainR k rs → k ≤ x → x < k + (expR rs).length → atR x rs o = (expR rs)[(x - k).toNat]?
  | [], k, x, o, _, h0, h1 => by
    have : x < k + ((0 : Nat) : Int) := h1
    omega
  | r :: rs, k, x, o, hc, h0, h1 => by
    obtain ⟨c1, c2, c3, c4⟩ := hc
    have hl : (expR (r :: rs)).length = (r.b - r.a + 1).toNat + (expR rs).length := by
      show (List.replicate (r.b - r.a + 1).toNat r.v ++ expR rs).length = _
      rw [List.length_append, List.length_replicate]
    rw [hl] at h1
    show atR x rs (if r.a ≤ x then some r.v else o) = (List.replicate (r.b - r.a + 1).toNat r.v ++ expR rs)[(x - k).toNat]?
    rw [if_pos (by omega)]
    by_cases h2 : x ≤ r.b
    · rw [List.getElem?_append_left (by rw [List.length_replicate]; omega), List.getElem?_replicate, if_pos (by omega)]
      cases rs with
      | nil => rfl
      | cons z zs =>
        show atR x zs (if z.a ≤ x then some z.v else some r.v) = some r.v
        rw [if_neg (by have := c4.1; omega)]
        exact inc_far x zs z _ (chain_inc _ _ c4) (by have := c4.1; omega)
    · rw [List.getElem?_append_right (by rw [List.length_replicate]; omega), List.length_replicate, atR_runs rs (r.b + 1) x _ c4 (by omega) (by omega)]
      congr 1
      omega
/-- A curve's number at a quantity is the number. -/
theorem cur_at {l : List Int} {x : Int} (h0 : 0 ≤ x) (h1 : x < l.length) : atG x (curG l) none = l[x.toNat]? := by
  unfold curG
  rw [atG_grp x _ _ none (Nat.le_refl _) (chain_inc _ _ (chain_runs l 0)), atR_runs _ 0 x none (chain_runs l 0) h0 (by rw [exp_runs]; omega), exp_runs, Int.sub_zero]
/-- CurveOne: two rows of numbers have the same curve just if they are the same. -/
theorem cur_one {a b : List Int} (hl : a.length = b.length) (h : curG a = curG b) : a = b := by
  apply List.ext_getElem?
  intro i
  by_cases hi : i < a.length
  · have h1 := cur_at (l := a) (x := (i : Int)) (by omega) (by omega)
    have h2 := cur_at (l := b) (x := (i : Int)) (by omega) (by omega)
    rw [h, h2] at h1
    simpa using h1.symm
  · rw [List.getElem?_eq_none (by omega), List.getElem?_eq_none (by omega)]
theorem extN_get {w r : Int} : ∀ (l : List (Rn Int)) (a v : Int) (i : Nat) (q : Rn Int), i < extN w r a v l → l[i]? = some q → q.a = a + w * ((i : Int) + 1) ∧ q.v = v + r * ((i : Int) + 1)
  | [], _, _, _, _, _, h => by simp at h
  | z :: l, a, v, i, q, hi, h => by
    unfold extN at hi
    split at hi
    · rename_i e
      cases i with
      | zero =>
        obtain rfl : z = q := by simpa using h
        simp only [Int.natCast_zero, Int.zero_add, Int.mul_one]
        exact e
      | succ i =>
        have := extN_get (w := w) (r := r) l z.a z.v i q (by omega) (by simpa using h)
        rw [e.1, e.2] at this
        rw [show ((i + 1 : Nat) : Int) = (i : Int) + 1 by omega, Int.mul_add w _ 1, Int.mul_add r _ 1, Int.mul_one, Int.mul_one]
        omega
    · omega
end Go.Proofs.Ytemjmdfmcblgnaa.P
/- Plain facts on rows of whole numbers: sums from the left, the least and the greatest one. No program is named here. -/
namespace Go.Proofs.Ytemjmdfmcblgnaa.P
open Go.RowKit
/-- The elements as cells: what a walk asks. -/
def Cells (w : World) (b off : Nat) (xs : List Int) : Prop := ∀ i, i < xs.length → w.cell? ⟨b, off + i, none⟩ = some (.int .i64 (xs.getD i 0))
end Go.Proofs.Ytemjmdfmcblgnaa.P

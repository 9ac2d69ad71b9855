/- Values of structs and slices in memory, and the plain data that they hold: no function of the program is named here. -/
import Derived.Test.YteelbdcgdkpioaaGreatDoorJLexQ
import Derived.WalkSmall
import Derived.WalkKit
import Derived.Below
import Derived.Deep.Slices
import Derived.ChangeArms
import Derived.ChangeOld
import Derived.Laws.AppendOwn
import Derived.Laws.OwnMore
import Derived.Test.YteelbdcgdkpioaaGreatDoorRows
import Derived.Lib.ItoaLen
import Derived.Lib.Join
namespace Go.Proofs.YteelbdcgdkpioaaGreatDoor.Mm
open Go.RowKit Go.Deep Go.ChangeShapes Go.WideShapes P

/-- A type: how many cells a value of it has, and what data they hold in a world. -/
structure Ty (α : Type) where
  n : Nat
  lies : World → List Value → α → Prop
  len : ∀ {w cs x}, lies w cs x → cs.length = n
  keep : ∀ {w w' cs x}, lies w cs x → Below w.heap.size w w' → lies w' cs x
/-- Rows that lie from a place on. -/
def LieRow {α : Type} (T : Ty α) (w : World) (b o : Nat) (xs : List α) : Prop := b < w.heap.size ∧
  ∀ j x, xs[j]? = some x → ∃ cs, T.lies w cs x ∧ ∀ i v, cs[i]? = some v → w.cell? ⟨b, o + j * T.n + i, none⟩ = some v
/-- What a slice holds. -/
structure Row {α : Type} (T : Ty α) (w : World) (ao : Option Addr) (len cap : Nat) (xs : List α) : Prop where
  hlen : xs.length = len
  hcap : len ≤ cap
  hmax : cap ≤ 9223372036854775807
  lie : xs ≠ [] → ∃ b o, ao = some ⟨b, o, none⟩ ∧ LieRow T w b o xs
theorem LieRow.on {α : Type} {T : Ty α} {w w' : World} {b o : Nat} {xs : List α} (h : LieRow T w b o xs) (hb : Below w.heap.size w w') : LieRow T w' b o xs := by
  refine ⟨Nat.lt_of_lt_of_le h.1 hb.size, fun j x hj => ?_⟩
  obtain ⟨cs, h1, h2⟩ := h.2 j x hj
  refine ⟨cs, T.keep h1 hb, fun i v hi => ?_⟩
  rw [hb.cell h.1]
  exact h2 i v hi
theorem Row.on {α : Type} {T : Ty α} {w w' : World} {ao : Option Addr} {len cap : Nat} {xs : List α} (h : Row T w ao len cap xs) (hb : Below w.heap.size w w') : Row T w' ao len cap xs :=
  ⟨h.hlen, h.hcap, h.hmax, fun n => by
    obtain ⟨b, o, h1, h2⟩ := h.lie n
    exact ⟨b, o, h1, h2.on hb⟩⟩
theorem bel_on {w w1 w2 : World} (a : Below w.heap.size w w1) (b : Below w1.heap.size w1 w2) : Below w.heap.size w w2 := a.trans (b.mono a.size)
theorem bel_alloc (w : World) (x : Obj) : Below w.heap.size w (w.alloc x) := (Below.refl _ _).alloc (Nat.le_refl _) _
theorem Row.alloc {α : Type} {T : Ty α} {w : World} {ao : Option Addr} {len cap : Nat} {xs : List α} (h : Row T w ao len cap xs) (x : Obj) : Row T (w.alloc x) ao len cap xs := h.on (bel_alloc w x)
/-- One element's address and cells. -/
theorem Row.at {α : Type} {T : Ty α} {w : World} {ao : Option Addr} {len cap : Nat} {xs : List α} (h : Row T w ao len cap xs) {j : Nat} {x : α} (hj : xs[j]? = some x) :
    ∃ b o cs, ao = some ⟨b, o, none⟩ ∧ b < w.heap.size ∧ T.lies w cs x ∧ ∀ i v, cs[i]? = some v → w.cell? ⟨b, o + j * T.n + i, none⟩ = some v := by
  obtain ⟨b, o, h1, h2⟩ := h.lie (fun e => by rw [e] at hj; cases hj)
  obtain ⟨cs, h3, h4⟩ := h2.2 j x hj
  exact ⟨b, o, cs, h1, h2.1, h3, h4⟩
/-- A type whose cells are told by the data alone. -/
def leaf {α : Type} (n : Nat) (cells : α → List Value) (ok : α → Prop) (hn : ∀ x, (cells x).length = n) : Ty α where
  n := n
  lies := fun _ cs x => cs = cells x ∧ ok x
  len := fun h => by rw [h.1]; exact hn _
  keep := fun h _ => h
/-- A number, a truth, a text. -/
def tInt : Ty Int := leaf 1 (fun x => [.int .i64 x]) I64 (fun _ => rfl)
def tStr : Ty ByteArray := leaf 1 (fun s => [.string s]) (fun s => s.size ≤ 9223372036854775807) (fun _ => rfl)

/-- What is owned stays owned behind calls that leave old blocks alone. -/
theorem owns_on {w w1 : World} {base : Nat} {e : TypeId} {size n : Nat} {v : Value} {xs : List Value} (h : w.ownsRow base e size v n xs) (b : Below w.heap.size w w1) : w1.ownsRow base e size v n xs := by
  refine ⟨h.1, ?_⟩
  rcases h.2 with h2 | ⟨g, cap, cur, h1, h2, h3, h4⟩
  · exact .inl h2
  · have hg : g < w.heap.size := by
      rcases Nat.lt_or_ge g w.heap.size with k | k
      · exact k
      · rw [Array.getElem?_eq_none k] at h3; cases h3
    exact .inr ⟨g, cap, cur, h1, h2, by rw [b.block g hg]; exact h3, h4⟩
theorem flat_take {α β : Type} {l : List α} {f : α → List β} {j : Nat} {x : α} (h : l[j]? = some x) : (l.take (j + 1)).flatMap f = (l.take j).flatMap f ++ f x := by
  rw [List.take_add_one, h, List.flatMap_append]
  simp
theorem flat_whole {α β : Type} {l : List α} {f : α → List β} : (l.take l.length).flatMap f = l.flatMap f := by rw [List.take_length]
theorem flat_get {α β : Type} {cells : α → List β} {n : Nat} (hn : ∀ x, (cells x).length = n) : ∀ (xs : List α) (j : Nat) (x : α) (i : Nat) (u : β), xs[j]? = some x → (cells x)[i]? = some u → (xs.flatMap cells)[j * n + i]? = some u
  | [], j, _, _, _, hj, _ => by cases j <;> cases hj
  | a :: r, 0, x, i, u, hj, hi => by
    obtain rfl : a = x := by simpa using hj
    rw [List.flatMap_cons, Nat.zero_mul, Nat.zero_add, List.getElem?_append_left (List.getElem?_eq_some_iff.1 hi).1]
    exact hi
  | a :: r, j + 1, x, i, u, hj, hi => by
    rw [List.flatMap_cons, List.getElem?_append_right (by rw [hn, Nat.succ_mul]; omega), hn, show (j + 1) * n + i - n = j * n + i by rw [Nat.succ_mul]; omega]
    exact flat_get hn r j x i u (by simpa using hj) hi
/-- Cells of an owned row of a type whose cells are told by the data alone. -/
theorem row_own {α : Type} {n : Nat} {cells : α → List Value} {ok : α → Prop} {hn : ∀ x, (cells x).length = n} {w : World} {base : Nat} {e : TypeId} {v : Value} {xs : List α} (h : w.ownsRow base e n v xs.length (xs.flatMap cells)) (hok : ∀ x ∈ xs, ok x) :
    ∃ ao cap, v = .slice ao xs.length cap ∧ Row (leaf n cells ok hn) w ao xs.length cap xs := by
  rcases h.2 with ⟨h1, h2⟩ | ⟨g, cap, cur, h1, _, h3, h4, h5, _, _⟩
  · obtain rfl : xs = [] := List.eq_nil_of_length_eq_zero h2
    exact ⟨none, 0, h1, ⟨rfl, Nat.le_refl _, Nat.zero_le _, fun n => absurd rfl n⟩⟩
  · have hg : g < w.heap.size := by
      rcases Nat.lt_or_ge g w.heap.size with k | k
      · exact k
      · rw [Array.getElem?_eq_none k] at h3; cases h3
    subst h1
    refine ⟨some ⟨g, 0, none⟩, cap, rfl, ⟨rfl, h4, by unfold maxLen at h5; omega, fun _ => ⟨g, 0, rfl, hg, fun j x hj => ⟨cells x, ⟨rfl, hok x (List.mem_of_getElem? hj)⟩, fun i u hi => ?_⟩⟩⟩⟩
    have hjl := (List.getElem?_eq_some_iff.1 hj).1
    have hil : i < n := by rw [← hn x]; exact (List.getElem?_eq_some_iff.1 hi).1
    have hlt : j * n + i < xs.length * n := by
      have := Nat.mul_le_mul_right n (Nat.succ_le_of_lt hjl)
      rw [Nat.succ_mul] at this
      omega
    show w.cell? ⟨g, 0 + j * n + i, none⟩ = some u
    rw [Nat.zero_add, h.cellAt _ hlt]
    exact flat_get hn xs j x i u hj hi

/-! Down: from the row's reading. -/
section
variable {H : Type} {enc : TypeId × Value → H} {P : Program} {w : World} {base : Nat} {spare : Nat → Bool} {held : Bool}
theorem i64_wf {n : Int} (h : (Lit.int .i64 n).wf = true) : I64 n := by
  unfold I64
  simpa [Lit.wf, IntKind.min, IntKind.max, IntKind.signed, IntKind.bits] using h
theorem down_int {t : TypeId} {fuel : Nat} {cs : List Value} {x : DataW H × List MemPlace} (ht : P.underlying t = some (.int .i64)) (h : DataW.trod enc P w base spare held fuel t cs = some x) : ∃ n, cs = [.int .i64 n] ∧ I64 n := by
  obtain ⟨n, h1, _, h3⟩ := DataW.trod_int ht h
  exact ⟨n, h1, i64_wf h3⟩
theorem down_str {t : TypeId} {fuel : Nat} {cs : List Value} {x : DataW H × List MemPlace} (ht : P.underlying t = some .string) (h : DataW.trod enc P w base spare held fuel t cs = some x) : ∃ s : ByteArray, cs = [.string s] ∧ s.size ≤ 9223372036854775807 := by
  obtain ⟨s, h1, _, h3⟩ := DataW.trod_string ht h
  exact ⟨s, h1, h3⟩
theorem down_bool {t : TypeId} {fuel : Nat} {cs : List Value} {x : DataW H × List MemPlace} (ht : P.underlying t = some .bool) (h : DataW.trod enc P w base spare held fuel t cs = some x) : ∃ b, cs = [.bool b] := by
  obtain ⟨b, h1, _⟩ := DataW.trod_bool ht h
  exact ⟨b, h1⟩
/-- A struct's fields: each is read of its own cells. -/
theorem down_struct {t : TypeId} {fs : Array Field} {fuel : Nat} {cs : List Value} {x : DataW H × List MemPlace} (ht : P.underlying t = some (.struct fs)) (h : DataW.trod enc P w base spare held fuel t cs = some x) :
    cs.length = P.cellsOf t ∧ ∃ n, ∀ (i : Nat) (f : Field), fs[i]? = some f → ∃ y, DataW.trod enc P w base spare held n f.type ((cs.drop f.offset).take (P.cellsOf f.type)) = some y := by
  obtain ⟨xs, n, _, _, hl, hx, hf⟩ := DataW.trod_struct ht h
  refine ⟨hl, n, fun i f hi => ?_⟩
  have hlt : i < fs.size := (Array.getElem?_eq_some_iff.1 hi).1
  rw [hf i f hi, List.getElem?_eq_getElem (by omega)]
  exact ⟨_, rfl⟩
theorem piece {α : Type} {cs p r : List α} {a k : Nat} (h1 : (cs.drop a).take k = p) (h2 : cs.drop (a + k) = r) : cs.drop a = p ++ r := by
  rw [← h1, ← h2, ← List.drop_drop, List.take_append_drop]
theorem piece_end {α : Type} {cs : List α} {a : Nat} (h : cs.length = a) : cs.drop a = [] := List.drop_eq_nil_iff.2 (by omega)
theorem piece_all {α : Type} {cs p : List α} (h : cs.drop 0 = p) : cs = p := h
theorem cell_plain {w : World} {a : Addr} {v : Value} (h : w.cell? a = some v) : a.spot = none := by
  unfold World.cell? at h
  split at h
  · cases hs : a.spot with
    | none => rfl
    | some k => rw [hs] at h; simp at h
  · cases h
theorem add_plain (b o k : Nat) : (⟨b, o, none⟩ : Addr).add k = ⟨b, o + k, none⟩ := by
  unfold Addr.add
  by_cases h : k = 0
  · subst h; rfl
  · rw [if_neg h]
theorem down_row {α : Type} [Inhabited α] {T : Ty α} {t e : TypeId} {fuel : Nat} {cs : List Value} {x : DataW H × List MemPlace} (ht : P.underlying t = some (.slice e)) (hC : P.cellsOf e = T.n) (hpos : 0 < T.n)
    (ho : ∀ fuel cs x, DataW.trod enc P w base spare held fuel e cs = some x → ∃ y, T.lies w cs y) (h : DataW.trod enc P w base spare held fuel t cs = some x) :
    ∃ ao len cap xs, cs = [.slice ao len cap] ∧ Row T w ao len cap xs := by
  rcases open_slice ht h with ⟨h0, _⟩ | ⟨a, len, cap, m, n, D, Pl, hcs, hb, hl, hm, hmm, hx, hi⟩
  · exact ⟨none, 0, 0, [], h0, ⟨rfl, Nat.le_refl _, Nat.zero_le _, fun n => absurd rfl n⟩⟩
  · have hlm : len ≤ m := by rw [hmm]; split <;> omega
    obtain ⟨f, hf⟩ := choose_lt (n := len) (p := fun i y => ∃ cs', T.lies w cs' y ∧ ∀ k v, cs'[k]? = some v → w.cell? (a.add (i * T.n + k)) = some v) (fun i hil => by
      obtain ⟨cs', h1, h2⟩ := hi i (by omega)
      obtain ⟨y, hy⟩ := ho _ _ _ h2
      rw [hC] at h1
      obtain ⟨_, hlen, hat⟩ := World.cells?_some h1
      refine ⟨y, cs', hy, fun k v hk => ?_⟩
      have hkl : k < T.n := by rw [← hlen]; exact (List.getElem?_eq_some_iff.1 hk).1
      rw [← Go.Deep.add_add, hat k hkl]
      exact hk)
    refine ⟨some a, len, cap, (List.range len).map f, hcs, ⟨by simp, hl, hm, fun hne => ?_⟩⟩
    have h0 : 0 < len := by
      rcases Nat.eq_zero_or_pos len with k | k
      · subst k; simp at hne
      · exact k
    obtain ⟨cs0, l0, g0⟩ := hf 0 h0
    have hlen0 := T.len l0
    have hc0 : cs0[0]? = some (cs0[0]'(by omega)) := List.getElem?_eq_getElem (by omega)
    have hcell := g0 0 _ hc0
    have hsp : a.spot = none := by
      have : a.add (0 * T.n + 0) = a := by rw [Nat.zero_mul]; rfl
      rw [this] at hcell
      exact cell_plain hcell
    obtain ⟨b, o, s⟩ := a
    obtain rfl : s = none := hsp
    refine ⟨b, o, rfl, ?_, fun j y hj => ?_⟩
    · have := World.block_lt_of_cell? w _ hcell
      rw [add_plain] at this
      exact this
    · have hjl : j < len := by
        have := (List.getElem?_eq_some_iff.1 hj).1
        simpa using this
      rw [List.getElem?_map, List.getElem?_range hjl] at hj
      simp only [Option.map_some, Option.some.injEq] at hj
      obtain ⟨cs', g1, g2⟩ := hf j hjl
      rw [hj] at g1
      refine ⟨cs', g1, fun i v hi => ?_⟩
      have := g2 i v hi
      rw [add_plain] at this
      rw [Nat.add_assoc]
      exact this
end
end Go.Proofs.YteelbdcgdkpioaaGreatDoor.Mm
/- Plans in memory (api.Plan and its parts), and the plain data that they hold. -/
namespace Go.Proofs.YteelbdcgdkpioaaGreatDoor.Mm
open Go.RowKit Go.Deep Go.ChangeShapes Go.WideShapes P

structure Day where
  y : Int
  m : Int
  d : Int
deriving Inhabited, DecidableEq
structure Win where
  has : Bool
  a : Day
  b : Day
deriving Inhabited, DecidableEq
structure Meter where
  name : ByteArray
  unit : ByteArray
  max : Int
  line : Int
  col : Int
deriving Inhabited
structure Fee where
  amount : Int
  win : Win
  line : Int
  col : Int
deriving Inhabited, DecidableEq
structure Tier where
  upto : Int
  rate : Int
deriving Inhabited, DecidableEq
structure Adj where
  kind : Int
  num : Int
  mode : Int
deriving Inhabited, DecidableEq
structure Charge where
  meter : ByteArray
  win : Win
  allowance : Int
  block : Int
  kind : Int
  tiers : List Tier
  mode : Int
  adjusts : List Adj
  line : Int
  col : Int
deriving Inhabited
structure Plan where
  name : ByteArray
  cur : ByteArray
  a : Day
  b : Day
  meters : List Meter
  fees : List Fee
  charges : List Charge
  line : Int
  col : Int
deriving Inhabited
def dayOk (d : Day) : Prop := I64 d.y ∧ I64 d.m ∧ I64 d.d
def winOk (w : Win) : Prop := dayOk w.a ∧ dayOk w.b
def strOk (s : ByteArray) : Prop := s.size ≤ 9223372036854775807
def meterC (m : Meter) : List Value := [.string m.name, .string m.unit, .int .i64 m.max, .int .i64 m.line, .int .i64 m.col]
def feeC (f : Fee) : List Value := [.int .i64 f.amount, .bool f.win.has, .int .i64 f.win.a.y, .int .i64 f.win.a.m, .int .i64 f.win.a.d, .int .i64 f.win.b.y, .int .i64 f.win.b.m, .int .i64 f.win.b.d, .int .i64 f.line, .int .i64 f.col]
def tierC (t : Tier) : List Value := [.int .i64 t.upto, .int .i64 t.rate]
def adjC (a : Adj) : List Value := [.int .i64 a.kind, .int .i64 a.num, .int .i64 a.mode]
def tMeter : Ty Meter := leaf 5 meterC (fun m => strOk m.name ∧ strOk m.unit ∧ I64 m.max ∧ I64 m.line ∧ I64 m.col) (fun _ => rfl)
def tFee : Ty Fee := leaf 10 feeC (fun f => I64 f.amount ∧ winOk f.win ∧ I64 f.line ∧ I64 f.col) (fun _ => rfl)
def tTier : Ty Tier := leaf 2 tierC (fun t => I64 t.upto ∧ I64 t.rate) (fun _ => rfl)
def tAdj : Ty Adj := leaf 3 adjC (fun a => I64 a.kind ∧ I64 a.num ∧ I64 a.mode) (fun _ => rfl)
def chargeC (c : Charge) (ta : Option Addr) (tc : Nat) (aa : Option Addr) (ac : Nat) : List Value :=
  [.string c.meter, .bool c.win.has, .int .i64 c.win.a.y, .int .i64 c.win.a.m, .int .i64 c.win.a.d, .int .i64 c.win.b.y, .int .i64 c.win.b.m, .int .i64 c.win.b.d,
    .int .i64 c.allowance, .int .i64 c.block, .int .i64 c.kind, .slice ta c.tiers.length tc, .int .i64 c.mode, .slice aa c.adjusts.length ac, .int .i64 c.line, .int .i64 c.col]
structure ChargeLies (w : World) (cs : List Value) (c : Charge) (ta : Option Addr) (tc : Nat) (aa : Option Addr) (ac : Nat) : Prop where
  cells : cs = chargeC c ta tc aa ac
  tiers : Row tTier w ta c.tiers.length tc c.tiers
  adjusts : Row tAdj w aa c.adjusts.length ac c.adjusts
  meter : strOk c.meter
  win : winOk c.win
  nums : I64 c.allowance ∧ I64 c.block ∧ I64 c.kind ∧ I64 c.mode ∧ I64 c.line ∧ I64 c.col
def tCharge : Ty Charge where
  n := 16
  lies := fun w cs c => ∃ ta tc aa ac, ChargeLies w cs c ta tc aa ac
  len := fun ⟨_, _, _, _, h⟩ => by rw [h.cells]; rfl
  keep := fun ⟨ta, tc, aa, ac, h⟩ hb => ⟨ta, tc, aa, ac, h.cells, h.tiers.on hb, h.adjusts.on hb, h.meter, h.win, h.nums⟩
def planC (p : Plan) (ma : Option Addr) (mc : Nat) (fa : Option Addr) (fc : Nat) (ca : Option Addr) (cc : Nat) : List Value :=
  [.string p.name, .string p.cur, .int .i64 p.a.y, .int .i64 p.a.m, .int .i64 p.a.d, .int .i64 p.b.y, .int .i64 p.b.m, .int .i64 p.b.d,
    .slice ma p.meters.length mc, .slice fa p.fees.length fc, .slice ca p.charges.length cc, .int .i64 p.line, .int .i64 p.col]
structure PlanLies (w : World) (cs : List Value) (p : Plan) (ma : Option Addr) (mc : Nat) (fa : Option Addr) (fc : Nat) (ca : Option Addr) (cc : Nat) : Prop where
  cells : cs = planC p ma mc fa fc ca cc
  meters : Row tMeter w ma p.meters.length mc p.meters
  fees : Row tFee w fa p.fees.length fc p.fees
  charges : Row tCharge w ca p.charges.length cc p.charges
  name : strOk p.name ∧ strOk p.cur
  days : dayOk p.a ∧ dayOk p.b
  place : I64 p.line ∧ I64 p.col
theorem PlanLies.on {w w' : World} {cs : List Value} {p : Plan} {ma : Option Addr} {mc : Nat} {fa : Option Addr} {fc : Nat} {ca : Option Addr} {cc : Nat} (h : PlanLies w cs p ma mc fa fc ca cc) (hb : Below w.heap.size w w') : PlanLies w' cs p ma mc fa fc ca cc :=
  ⟨h.cells, h.meters.on hb, h.fees.on hb, h.charges.on hb, h.name, h.days, h.place⟩
def tPlan : Ty Plan where
  n := 13
  lies := fun w cs p => ∃ ma mc fa fc ca cc, PlanLies w cs p ma mc fa fc ca cc
  len := fun ⟨_, _, _, _, _, _, h⟩ => by rw [h.cells]; rfl
  keep := fun ⟨ma, mc, fa, fc, ca, cc, h⟩ hb => ⟨ma, mc, fa, fc, ca, cc, h.on hb⟩
section
variable {H : Type} {enc : TypeId × Value → H} {w : World} {base : Nat} {spare : Nat → Bool} {held : Bool}
theorem fld {Pr : Program} {fs : Array Field} {n : Nat} {cs : List Value} (hf : ∀ (i : Nat) (f : Field), fs[i]? = some f → ∃ y, DataW.trod enc Pr w base spare held n f.type ((cs.drop f.offset).take (Pr.cellsOf f.type)) = some y)
    (i : Nat) (f : Field) (hi : fs[i]? = some f) (k : Nat) (hk : Pr.cellsOf f.type = k) : ∃ y, DataW.trod enc Pr w base spare held n f.type ((cs.drop f.offset).take k) = some y := by
  rw [← hk]; exact hf i f hi
theorem down_day {fuel : Nat} {cs : List Value} {x : DataW H × List MemPlace} (h : DataW.trod enc Tryz.prog w base spare held fuel 24 cs = some x) :
    ∃ d : Day, cs = [.int .i64 d.y, .int .i64 d.m, .int .i64 d.d] ∧ dayOk d := by
  obtain ⟨hl, n, hf⟩ := down_struct Tryz.underlying24 h
  obtain ⟨_, h0⟩ := fld hf 0 _ rfl 1 (by kernel_rfl)
  obtain ⟨_, h1⟩ := fld hf 1 _ rfl 1 (by kernel_rfl)
  obtain ⟨_, h2⟩ := fld hf 2 _ rfl 1 (by kernel_rfl)
  obtain ⟨a, e0, g0⟩ := down_int Tryz.underlying3 h0
  obtain ⟨b, e1, g1⟩ := down_int Tryz.underlying3 h1
  obtain ⟨c, e2, g2⟩ := down_int Tryz.underlying3 h2
  rw [show Tryz.prog.cellsOf 24 = 3 by kernel_rfl] at hl
  exact ⟨⟨a, b, c⟩, piece_all (piece (k := 1) e0 (piece (k := 1) e1 (piece (k := 1) e2 (piece_end hl)))), g0, g1, g2⟩
theorem down_win {fuel : Nat} {cs : List Value} {x : DataW H × List MemPlace} (h : DataW.trod enc Tryz.prog w base spare held fuel 46 cs = some x) :
    ∃ d : Win, cs = [.bool d.has, .int .i64 d.a.y, .int .i64 d.a.m, .int .i64 d.a.d, .int .i64 d.b.y, .int .i64 d.b.m, .int .i64 d.b.d] ∧ winOk d := by
  obtain ⟨hl, n, hf⟩ := down_struct Tryz.underlying46 h
  obtain ⟨_, h0⟩ := fld hf 0 _ rfl 1 (by kernel_rfl)
  obtain ⟨_, h1⟩ := fld hf 1 _ rfl 3 (by kernel_rfl)
  obtain ⟨_, h2⟩ := fld hf 2 _ rfl 3 (by kernel_rfl)
  obtain ⟨a, e0⟩ := down_bool Tryz.underlying4 h0
  obtain ⟨b, e1, g1⟩ := down_day h1
  obtain ⟨c, e2, g2⟩ := down_day h2
  rw [show Tryz.prog.cellsOf 46 = 7 by kernel_rfl] at hl
  exact ⟨⟨a, b, c⟩, piece_all (piece (k := 1) e0 (piece (k := 3) e1 (piece (k := 3) e2 (piece_end hl)))), g1, g2⟩
theorem down_meter {fuel : Nat} {cs : List Value} {x : DataW H × List MemPlace} (h : DataW.trod enc Tryz.prog w base spare held fuel 44 cs = some x) : ∃ y, tMeter.lies w cs y := by
  obtain ⟨hl, n, hf⟩ := down_struct Tryz.underlying44 h
  obtain ⟨_, h0⟩ := fld hf 0 _ rfl 1 (by kernel_rfl)
  obtain ⟨_, h1⟩ := fld hf 1 _ rfl 1 (by kernel_rfl)
  obtain ⟨_, h2⟩ := fld hf 2 _ rfl 1 (by kernel_rfl)
  obtain ⟨_, h3⟩ := fld hf 3 _ rfl 1 (by kernel_rfl)
  obtain ⟨_, h4⟩ := fld hf 4 _ rfl 1 (by kernel_rfl)
  obtain ⟨a, e0, g0⟩ := down_str Tryz.underlying9 h0
  obtain ⟨b, e1, g1⟩ := down_str Tryz.underlying9 h1
  obtain ⟨c, e2, g2⟩ := down_int Tryz.underlying3 h2
  obtain ⟨d, e3, g3⟩ := down_int Tryz.underlying3 h3
  obtain ⟨e, e4, g4⟩ := down_int Tryz.underlying3 h4
  rw [show Tryz.prog.cellsOf 44 = 5 by kernel_rfl] at hl
  exact ⟨⟨a, b, c, d, e⟩, piece_all (piece (k := 1) e0 (piece (k := 1) e1 (piece (k := 1) e2 (piece (k := 1) e3 (piece (k := 1) e4 (piece_end hl)))))), g0, g1, g2, g3, g4⟩
theorem down_fee {fuel : Nat} {cs : List Value} {x : DataW H × List MemPlace} (h : DataW.trod enc Tryz.prog w base spare held fuel 48 cs = some x) : ∃ y, tFee.lies w cs y := by
  obtain ⟨hl, n, hf⟩ := down_struct Tryz.underlying48 h
  obtain ⟨_, h0⟩ := fld hf 0 _ rfl 1 (by kernel_rfl)
  obtain ⟨_, h1⟩ := fld hf 1 _ rfl 7 (by kernel_rfl)
  obtain ⟨_, h2⟩ := fld hf 2 _ rfl 1 (by kernel_rfl)
  obtain ⟨_, h3⟩ := fld hf 3 _ rfl 1 (by kernel_rfl)
  obtain ⟨a, e0, g0⟩ := down_int Tryz.underlying3 h0
  obtain ⟨b, e1, g1⟩ := down_win h1
  obtain ⟨c, e2, g2⟩ := down_int Tryz.underlying3 h2
  obtain ⟨d, e3, g3⟩ := down_int Tryz.underlying3 h3
  rw [show Tryz.prog.cellsOf 48 = 10 by kernel_rfl] at hl
  exact ⟨⟨a, b, c, d⟩, piece_all (piece (k := 1) e0 (piece (k := 7) e1 (piece (k := 1) e2 (piece (k := 1) e3 (piece_end hl))))), g0, g1, g2, g3⟩
theorem down_tier {fuel : Nat} {cs : List Value} {x : DataW H × List MemPlace} (h : DataW.trod enc Tryz.prog w base spare held fuel 97 cs = some x) : ∃ y, tTier.lies w cs y := by
  obtain ⟨hl, n, hf⟩ := down_struct Tryz.underlying97 h
  obtain ⟨_, h0⟩ := fld hf 0 _ rfl 1 (by kernel_rfl)
  obtain ⟨_, h1⟩ := fld hf 1 _ rfl 1 (by kernel_rfl)
  obtain ⟨a, e0, g0⟩ := down_int Tryz.underlying3 h0
  obtain ⟨b, e1, g1⟩ := down_int Tryz.underlying3 h1
  rw [show Tryz.prog.cellsOf 97 = 2 by kernel_rfl] at hl
  exact ⟨⟨a, b⟩, piece_all (piece (k := 1) e0 (piece (k := 1) e1 (piece_end hl))), g0, g1⟩
theorem down_adj {fuel : Nat} {cs : List Value} {x : DataW H × List MemPlace} (h : DataW.trod enc Tryz.prog w base spare held fuel 100 cs = some x) : ∃ y, tAdj.lies w cs y := by
  obtain ⟨hl, n, hf⟩ := down_struct Tryz.underlying100 h
  obtain ⟨_, h0⟩ := fld hf 0 _ rfl 1 (by kernel_rfl)
  obtain ⟨_, h1⟩ := fld hf 1 _ rfl 1 (by kernel_rfl)
  obtain ⟨_, h2⟩ := fld hf 2 _ rfl 1 (by kernel_rfl)
  obtain ⟨a, e0, g0⟩ := down_int Tryz.underlying3 h0
  obtain ⟨b, e1, g1⟩ := down_int Tryz.underlying3 h1
  obtain ⟨c, e2, g2⟩ := down_int Tryz.underlying3 h2
  rw [show Tryz.prog.cellsOf 100 = 3 by kernel_rfl] at hl
  exact ⟨⟨a, b, c⟩, piece_all (piece (k := 1) e0 (piece (k := 1) e1 (piece (k := 1) e2 (piece_end hl)))), g0, g1, g2⟩
theorem down_charge {fuel : Nat} {cs : List Value} {x : DataW H × List MemPlace} (h : DataW.trod enc Tryz.prog w base spare held fuel 52 cs = some x) : ∃ y, tCharge.lies w cs y := by
  obtain ⟨hl, n, hf⟩ := down_struct Tryz.underlying52 h
  obtain ⟨_, h0⟩ := fld hf 0 _ rfl 1 (by kernel_rfl)
  obtain ⟨_, h1⟩ := fld hf 1 _ rfl 7 (by kernel_rfl)
  obtain ⟨_, h2⟩ := fld hf 2 _ rfl 1 (by kernel_rfl)
  obtain ⟨_, h3⟩ := fld hf 3 _ rfl 1 (by kernel_rfl)
  obtain ⟨_, h4⟩ := fld hf 4 _ rfl 1 (by kernel_rfl)
  obtain ⟨_, h5⟩ := fld hf 5 _ rfl 1 (by kernel_rfl)
  obtain ⟨_, h6⟩ := fld hf 6 _ rfl 1 (by kernel_rfl)
  obtain ⟨_, h7⟩ := fld hf 7 _ rfl 1 (by kernel_rfl)
  obtain ⟨_, h8⟩ := fld hf 8 _ rfl 1 (by kernel_rfl)
  obtain ⟨_, h9⟩ := fld hf 9 _ rfl 1 (by kernel_rfl)
  obtain ⟨a, e0, g0⟩ := down_str Tryz.underlying9 h0
  obtain ⟨b, e1, g1⟩ := down_win h1
  obtain ⟨c, e2, g2⟩ := down_int Tryz.underlying3 h2
  obtain ⟨d, e3, g3⟩ := down_int Tryz.underlying3 h3
  obtain ⟨e, e4, g4⟩ := down_int Tryz.underlying3 h4
  obtain ⟨ta, tl, tc, ts, e5, g5⟩ := down_row (T := tTier) Tryz.underlying49 (by kernel_rfl) (by decide) (fun _ _ _ h => down_tier h) h5
  obtain ⟨i, e6, g6⟩ := down_int Tryz.underlying3 h6
  obtain ⟨aa, al, ac, as', e7, g7⟩ := down_row (T := tAdj) Tryz.underlying50 (by kernel_rfl) (by decide) (fun _ _ _ h => down_adj h) h7
  obtain ⟨j, e8, g8⟩ := down_int Tryz.underlying3 h8
  obtain ⟨k, e9, g9⟩ := down_int Tryz.underlying3 h9
  rw [show Tryz.prog.cellsOf 52 = 16 by kernel_rfl] at hl
  obtain rfl := g5.hlen
  obtain rfl := g7.hlen
  exact ⟨⟨a, b, c, d, e, ts, i, as', j, k⟩, ta, tc, aa, ac, piece_all (piece (k := 1) e0 (piece (k := 7) e1 (piece (k := 1) e2 (piece (k := 1) e3 (piece (k := 1) e4 (piece (k := 1) e5 (piece (k := 1) e6 (piece (k := 1) e7 (piece (k := 1) e8 (piece (k := 1) e9 (piece_end hl))))))))))),
    g5, g7, g0, g1, g2, g3, g4, g6, g8, g9⟩
theorem down_plan {fuel : Nat} {cs : List Value} {x : DataW H × List MemPlace} (h : DataW.trod enc Tryz.prog w base spare held fuel 29 cs = some x) : ∃ y, tPlan.lies w cs y := by
  obtain ⟨hl, n, hf⟩ := down_struct Tryz.underlying29 h
  obtain ⟨_, h0⟩ := fld hf 0 _ rfl 1 (by kernel_rfl)
  obtain ⟨_, h1⟩ := fld hf 1 _ rfl 1 (by kernel_rfl)
  obtain ⟨_, h2⟩ := fld hf 2 _ rfl 3 (by kernel_rfl)
  obtain ⟨_, h3⟩ := fld hf 3 _ rfl 3 (by kernel_rfl)
  obtain ⟨_, h4⟩ := fld hf 4 _ rfl 1 (by kernel_rfl)
  obtain ⟨_, h5⟩ := fld hf 5 _ rfl 1 (by kernel_rfl)
  obtain ⟨_, h6⟩ := fld hf 6 _ rfl 1 (by kernel_rfl)
  obtain ⟨_, h7⟩ := fld hf 7 _ rfl 1 (by kernel_rfl)
  obtain ⟨_, h8⟩ := fld hf 8 _ rfl 1 (by kernel_rfl)
  obtain ⟨a, e0, g0⟩ := down_str Tryz.underlying9 h0
  obtain ⟨b, e1, g1⟩ := down_str Tryz.underlying9 h1
  obtain ⟨c, e2, g2⟩ := down_day h2
  obtain ⟨d, e3, g3⟩ := down_day h3
  obtain ⟨ma, ml, mc, ms, e4, g4⟩ := down_row (T := tMeter) Tryz.underlying25 (by kernel_rfl) (by decide) (fun _ _ _ h => down_meter h) h4
  obtain ⟨fa, fl, fc, fs, e5, g5⟩ := down_row (T := tFee) Tryz.underlying26 (by kernel_rfl) (by decide) (fun _ _ _ h => down_fee h) h5
  obtain ⟨ca, cl, cc, cs', e6, g6⟩ := down_row (T := tCharge) Tryz.underlying27 (by kernel_rfl) (by decide) (fun _ _ _ h => down_charge h) h6
  obtain ⟨i, e7, g7⟩ := down_int Tryz.underlying3 h7
  obtain ⟨j, e8, g8⟩ := down_int Tryz.underlying3 h8
  rw [show Tryz.prog.cellsOf 29 = 13 by kernel_rfl] at hl
  obtain rfl := g4.hlen
  obtain rfl := g5.hlen
  obtain rfl := g6.hlen
  exact ⟨⟨a, b, c, d, ms, fs, cs', i, j⟩, ma, mc, fa, fc, ca, cc, piece_all (piece (k := 1) e0 (piece (k := 1) e1 (piece (k := 3) e2 (piece (k := 3) e3 (piece (k := 1) e4 (piece (k := 1) e5 (piece (k := 1) e6 (piece (k := 1) e7 (piece (k := 1) e8 (piece_end hl)))))))))),
    g4, g5, g6, ⟨g0, g1⟩, ⟨g2, g3⟩, g7, g8⟩
set_option maxRecDepth 100000 in
/-- A plan that is an argument. -/
theorem open_plan {d : DataW H} {v : Value} {ps : List MemPlace} {r : Reach} {b0 : Nat} (hv : Value.okWide Tryz.prog w r b0 29 v) (h : DataW.Trod enc Tryz.prog w base spare held 29 v d ps) :
    ∃ p ma mc fa fc ca cc, v = .agg (planC p ma mc fa fc ca cc).toArray ∧ PlanLies w (planC p ma mc fa fc ca cc) p ma mc fa fc ca cc := by
  obtain ⟨fuel, hf⟩ := h
  obtain ⟨p, ma, mc, fa, fc, ca, cc, hp⟩ := down_plan hf
  have hx := okWide_struct (P := Tryz.prog) (t := 29) Tryz.underlying29 hv
  obtain ⟨cs, hx, _⟩ := hx
  subst hx
  have e : cs.toList = planC p ma mc fa fc ca cc := hp.cells
  refine ⟨p, ma, mc, fa, fc, ca, cc, by rw [← e], ?_⟩
  have := hp
  exact ⟨rfl, this.meters, this.fees, this.charges, this.name, this.days, this.place⟩
end
end Go.Proofs.YteelbdcgdkpioaaGreatDoor.Mm
/- A row of tokens, read from the left: what the document's parser does, as plain functions: no program is named here. -/
namespace Go.Proofs.YteelbdcgdkpioaaGreatDoor.P
open Go.RowKit Mm

/-- Which token is next, and what is wrong, and where. -/
structure St where
  i : Nat
  err : Int
  ln : Int
  cl : Int
def nil0 : Tok := ⟨0, [], 0, 0⟩
def tk (ts : List Tok) (s : St) : Tok := ts.getD s.i nil0
def St.next (s : St) : St := { s with i := s.i + 1 }
/-- The first thing that is wrong counts. -/
def wrg (ts : List Tok) (s : St) (e : Int) : St := if s.err = 0 then { s with err := e, ln := (tk ts s).ln, cl := (tk ts s).cl } else s
def onW (ts : List Tok) (s : St) (l : List UInt8) : Bool := decide (s.err = 0) && ((decide ((tk ts s).k = 2) || decide ((tk ts s).k = 5)) && ((tk ts s).t == l))
def tke (ts : List Tok) (s : St) (l : List UInt8) : Bool × St := if onW ts s l then (true, s.next) else (false, s)
def wnt (ts : List Tok) (s : St) (l : List UInt8) : St := if onW ts s l then s.next else wrg ts s 4
def isTk (ts : List Tok) (s : St) (k : Nat) : Bool := decide (s.err = 0) && decide ((tk ts s).k = k)
def tkn (ts : List Tok) (s : St) (k : Nat) : List UInt8 × St := if isTk ts s k then ((tk ts s).t, s.next) else ([], wrg ts s 4)
def bad (ts : List Tok) (s : St) (v : Int) : St := if v = 1 then wrg ts s 4 else if v = 2 then wrg ts s 6 else s
def numS (ts : List Tok) (s : St) (places most : Int) : Int × St :=
  if isTk ts s 3 then (pN (tk ts s).t places most, (bad ts s (pW (tk ts s).t places most)).next) else (0, wrg ts s 4)
def dayOf' (l : List UInt8) : Day := if reads l then ⟨yearOf l, monthOf l, dayOf l⟩ else ⟨0, 0, 0⟩
def dayS (ts : List Tok) (s : St) : Day × St := (dayOf' (tkn ts s 4).1, (tkn ts s 4).2)
def wFrom : List UInt8 := [102, 114, 111, 109]
def wTo : List UInt8 := [116, 111]
def winS (ts : List Tok) (s : St) : Win × St :=
  if onW ts s wFrom then
    let a := dayS ts s.next
    let b := dayS ts (wnt ts a.2 wTo)
    (⟨true, a.1, b.1⟩, b.2)
  else (⟨false, ⟨0, 0, 0⟩, ⟨0, 0, 0⟩⟩, s)
/-- Which of some words is next. -/
def oneAt (ts : List Tok) (s : St) : List (List UInt8) → Int → Int × St
  | [], _ => (-1, s)
  | w :: r, k => if onW ts s w then (k, s.next) else oneAt ts s r (k + 1)
def oneS (ts : List Tok) (s : St) (ws : List (List UInt8)) : Int × St := oneAt ts s ws 0
def modes : List (List UInt8) := [[102, 108, 111, 111, 114], [99, 101, 105, 108], [104, 97, 108, 102, 117, 112], [104, 97, 108, 102, 101, 118, 101, 110]]
def modeS (ts : List Tok) (s : St) : Int × St := if (oneS ts s modes).1 < 0 then (0, wrg ts (oneS ts s modes).2 4) else oneS ts s modes
/-- The row of tokens ends with the end, and nothing else in it is of that kind. -/
structure Toks (ts : List Tok) : Prop where
  last : ∀ i t, ts[i]? = some t → i + 1 = ts.length → t.k = 0
  pos : 0 < ts.length
structure Ok (ts : List Tok) (s : St) : Prop where
  toks : Toks ts
  lt : s.i < ts.length
theorem Ok.at {ts : List Tok} {s : St} (h : Ok ts s) : ts[s.i]? = some (tk ts s) := by
  unfold tk
  rw [List.getElem?_eq_getElem h.lt, List.getD_eq_getElem?_getD, List.getElem?_eq_getElem h.lt]
  rfl
theorem Ok.next {ts : List Tok} {s : St} (h : Ok ts s) (hk : (tk ts s).k ≠ 0) : Ok ts s.next := by
  refine ⟨h.toks, ?_⟩
  show s.i + 1 < ts.length
  have := h.lt
  rcases Nat.lt_or_ge (s.i + 1) ts.length with h1 | h1
  · exact h1
  · exact absurd (h.toks.last s.i _ h.at (by omega)) hk
theorem Ok.wrg {ts : List Tok} {s : St} (h : Ok ts s) (e : Int) : Ok ts (wrg ts s e) := by
  unfold P.wrg
  split
  · exact ⟨h.toks, h.lt⟩
  · exact h
theorem wrg_i (ts : List Tok) (s : St) (e : Int) : (wrg ts s e).i = s.i := by unfold wrg; split <;> rfl
theorem onW_k {ts : List Tok} {s : St} {l : List UInt8} (h : onW ts s l = true) : (tk ts s).k ≠ 0 := by
  unfold onW at h
  simp only [Bool.and_eq_true, Bool.or_eq_true, decide_eq_true_eq] at h
  omega
theorem isTk_k {ts : List Tok} {s : St} {k : Nat} (h : isTk ts s k = true) (hk : k ≠ 0) : (tk ts s).k ≠ 0 := by
  unfold isTk at h
  simp only [Bool.and_eq_true, decide_eq_true_eq] at h
  omega
theorem Ok.tke {ts : List Tok} {s : St} (h : Ok ts s) (l : List UInt8) : Ok ts (tke ts s l).2 := by
  unfold P.tke
  split
  · rename_i ho; exact h.next (onW_k ho)
  · exact h
theorem Ok.wnt {ts : List Tok} {s : St} (h : Ok ts s) (l : List UInt8) : Ok ts (wnt ts s l) := by
  unfold P.wnt
  split
  · rename_i ho; exact h.next (onW_k ho)
  · exact h.wrg 4
theorem Ok.tkn {ts : List Tok} {s : St} (h : Ok ts s) {k : Nat} (hk : k ≠ 0) : Ok ts (tkn ts s k).2 := by
  unfold P.tkn
  split
  · rename_i ho; exact h.next (isTk_k ho hk)
  · exact h.wrg 4
theorem Ok.numS {ts : List Tok} {s : St} (h : Ok ts s) (places most : Int) : Ok ts (numS ts s places most).2 := by
  unfold P.numS
  split
  · rename_i ho
    have hn := (h.next (isTk_k ho (by decide))).lt
    refine ⟨h.toks, ?_⟩
    have e : (bad ts s (pW (tk ts s).t places most)).i = s.i := by
      unfold bad
      repeat' split
      · exact wrg_i ..
      · exact wrg_i ..
      · rfl
    show (bad ts s _).i + 1 < _
    rw [e]
    exact hn
  · exact h.wrg 4
theorem Ok.dayS {ts : List Tok} {s : St} (h : Ok ts s) : Ok ts (dayS ts s).2 := h.tkn (by decide)
theorem Ok.winS {ts : List Tok} {s : St} (h : Ok ts s) : Ok ts (winS ts s).2 := by
  unfold P.winS
  split
  · rename_i ho; exact (((h.next (onW_k ho)).dayS).wnt _).dayS
  · exact h
theorem Ok.oneAt {ts : List Tok} {s : St} (h : Ok ts s) : ∀ (ws : List (List UInt8)) (k : Int), Ok ts (oneAt ts s ws k).2
  | [], _ => h
  | w :: r, k => by
    unfold P.oneAt
    split
    · rename_i ho; exact h.next (onW_k ho)
    · exact Ok.oneAt h r (k + 1)
theorem Ok.oneS {ts : List Tok} {s : St} (h : Ok ts s) (ws : List (List UInt8)) : Ok ts (oneS ts s ws).2 := h.oneAt ws 0
theorem Ok.modeS {ts : List Tok} {s : St} (h : Ok ts s) : Ok ts (modeS ts s).2 := by
  unfold P.modeS
  split
  · exact (h.oneS _).wrg 4
  · exact h.oneS _
end Go.Proofs.YteelbdcgdkpioaaGreatDoor.P
/- A row of tokens as a plan, as the document's parser reads it: plain functions: no program is named here. -/
namespace Go.Proofs.YteelbdcgdkpioaaGreatDoor.P
open Go.RowKit Mm

def sOpen : List UInt8 := [123]
def sShut : List UInt8 := [125]
def sSemi : List UInt8 := [59]
def wPlan : List UInt8 := [112, 108, 97, 110]
def wCurrency : List UInt8 := [99, 117, 114, 114, 101, 110, 99, 121]
def wHorizon : List UInt8 := [104, 111, 114, 105, 122, 111, 110]
def wMeter : List UInt8 := [109, 101, 116, 101, 114]
def wUnit : List UInt8 := [117, 110, 105, 116]
def wMax : List UInt8 := [109, 97, 120]
def wFee : List UInt8 := [102, 101, 101]
def wCharge : List UInt8 := [99, 104, 97, 114, 103, 101]
def wAllowance : List UInt8 := [97, 108, 108, 111, 119, 97, 110, 99, 101]
def wBlock : List UInt8 := [98, 108, 111, 99, 107]
def wGraduated : List UInt8 := [103, 114, 97, 100, 117, 97, 116, 101, 100]
def wVolume : List UInt8 := [118, 111, 108, 117, 109, 101]
def wUpto : List UInt8 := [117, 112, 116, 111]
def wRate : List UInt8 := [114, 97, 116, 101]
def wRest : List UInt8 := [114, 101, 115, 116]
def wRound : List UInt8 := [114, 111, 117, 110, 100]
def wPercent : List UInt8 := [112, 101, 114, 99, 101, 110, 116]
def wCap : List UInt8 := [99, 97, 112]
def wMinimum : List UInt8 := [109, 105, 110, 105, 109, 117, 109]
def wAdd : List UInt8 := [97, 100, 100]
def kinds : List (List UInt8) := [wGraduated, wVolume]
def adjWords : List (List UInt8) := [wPercent, wCap, wMinimum, wAdd]
def itemWords : List (List UInt8) := [wMeter, wFee, wCharge]
/-- A number behind its word, if that is told. -/
def optS (ts : List Tok) (s : St) (l : List UInt8) (d : Int) : Int × St :=
  if onW ts s l then ((numS ts s.next 0 1000000).1, wnt ts (numS ts s.next 0 1000000).2 sSemi) else (d, s)
def tierS (ts : List Tok) (s : St) : Tier × St :=
  let a := numS ts s 0 1000000
  let b := numS ts (wnt ts a.2 wRate) 6 1000000000000
  (⟨a.1, b.1⟩, wnt ts b.2 sSemi)
def tiersS (ts : List Tok) : Nat → St → List Tier → List Tier × St
  | 0, s, acc => (acc, s)
  | n + 1, s, acc => if onW ts s wUpto then tiersS ts n (tierS ts s.next).2 (acc ++ [(tierS ts s.next).1]) else (acc, s)
/-- An adjustment of a kind, from 1 on, behind its word. -/
def adjS (ts : List Tok) (s : St) (k : Int) : Adj × St :=
  if k = 1 then
    let n := numS ts s 3 100000000
    let m := modeS ts n.2
    (⟨k, n.1, m.1⟩, wnt ts m.2 sSemi)
  else
    let n := numS ts s 0 1000000000000
    (⟨k, n.1, 0⟩, wnt ts n.2 sSemi)
def adjsS (ts : List Tok) : Nat → St → List Adj → List Adj × St
  | 0, s, acc => (acc, s)
  | n + 1, s, acc =>
    let r := oneS ts s adjWords
    if 1 + r.1 = 0 then (acc, r.2) else adjsS ts n (adjS ts r.2 (1 + r.1)).2 (acc ++ [(adjS ts r.2 (1 + r.1)).1])
def kindS (ts : List Tok) (s : St) : Int × St :=
  let r := oneS ts s kinds
  (1 + r.1, if 1 + r.1 = 0 then wrg ts r.2 4 else r.2)
/-- A charge behind its word. -/
def chargeS (ts : List Tok) (s : St) (line col : Int) : Charge × St :=
  let m := tkn ts s 1
  let wn := winS ts m.2
  let al := optS ts (wnt ts wn.2 sOpen) wAllowance 0
  let bl := optS ts al.2 wBlock 1
  let kd := kindS ts bl.2
  let ti := tiersS ts ts.length (wnt ts kd.2 sOpen) []
  let rt := numS ts (wnt ts (wnt ts ti.2 wRest) wRate) 6 1000000000000
  let md := modeS ts (wnt ts (wnt ts (wnt ts rt.2 sSemi) sShut) wRound)
  let ad := adjsS ts ts.length (wnt ts md.2 sSemi) []
  (⟨⟨m.1.toArray⟩, wn.1, al.1, bl.1, kd.1, ti.1 ++ [⟨0, rt.1⟩], md.1, ad.1, line, col⟩, wnt ts ad.2 sShut)
def meterS (ts : List Tok) (s : St) (line col : Int) : Meter × St :=
  let a := tkn ts s 1
  let u := tkn ts (wnt ts a.2 wUnit) 1
  let n := numS ts (wnt ts u.2 wMax) 0 2000
  (⟨⟨a.1.toArray⟩, ⟨u.1.toArray⟩, n.1, line, col⟩, wnt ts n.2 sSemi)
def feeS (ts : List Tok) (s : St) (line col : Int) : Fee × St :=
  let n := numS ts s 0 1000000000000
  let wn := winS ts n.2
  (⟨n.1, wn.1, line, col⟩, wnt ts wn.2 sSemi)
/-- One item more. -/
def itemS (ts : List Tok) (s : St) (p : Plan) : Plan × St :=
  let t := tk ts s
  let r := oneS ts s itemWords
  if r.1 = 0 then ({ p with meters := p.meters ++ [(meterS ts r.2 t.ln t.cl).1] }, (meterS ts r.2 t.ln t.cl).2)
  else if r.1 = 1 then ({ p with fees := p.fees ++ [(feeS ts r.2 t.ln t.cl).1] }, (feeS ts r.2 t.ln t.cl).2)
  else if r.1 = 2 then ({ p with charges := p.charges ++ [(chargeS ts r.2 t.ln t.cl).1] }, (chargeS ts r.2 t.ln t.cl).2)
  else (p, wrg ts r.2 4)
def goesOn (ts : List Tok) (s : St) : Bool := decide (s.err = 0) && !decide ((tk ts s).k = 0)
def itemsS (ts : List Tok) : Nat → St → Plan → Plan × St
  | 0, s, p => (p, s)
  | n + 1, s, p => if goesOn ts s then itemsS ts n (itemS ts s p).2 (itemS ts s p).1 else (p, s)
/-- The plan's line and the horizon's. -/
def headS (ts : List Tok) (s : St) : Plan × St :=
  let t := tk ts s
  let n := tkn ts (wnt ts s wPlan) 1
  let c := tkn ts (wnt ts n.2 wCurrency) 1
  let a := dayS ts (wnt ts (wnt ts c.2 sSemi) wHorizon)
  let b := dayS ts a.2
  (⟨⟨n.1.toArray⟩, ⟨c.1.toArray⟩, a.1, b.1, [], [], [], t.ln, t.cl⟩, wnt ts b.2 sSemi)
def planZ : Plan := ⟨⟨#[]⟩, ⟨#[]⟩, ⟨0, 0, 0⟩, ⟨0, 0, 0⟩, [], [], [], 0, 0⟩
def st0 : St := ⟨0, 0, 0, 0⟩
/-- A row of tokens as a plan; or what is wrong first, and where. -/
def planS (ts : List Tok) : Plan × Int × Int × Int :=
  let h := headS ts st0
  let r := itemsS ts ts.length h.2 h.1
  if r.2.err = 0 then (r.1, 0, 0, 0) else (planZ, r.2.err, r.2.ln, r.2.cl)
/-- A text as a plan; or what is wrong first, and where. -/
def parsed (l : List UInt8) : Plan × Int × Int × Int :=
  let x := lexed l
  if x.2.1 = 0 then planS x.1 else (planZ, x.2.1, x.2.2.1, x.2.2.2)

/-! Each call leaves the next token within the row, and goes on where nothing is wrong. -/
theorem Ok.optS {ts : List Tok} {s : St} (h : Ok ts s) (l : List UInt8) (d : Int) : Ok ts (optS ts s l d).2 := by
  unfold P.optS
  split
  · rename_i ho; exact ((h.next (onW_k ho)).numS _ _).wnt _
  · exact h
theorem Ok.tierS {ts : List Tok} {s : St} (h : Ok ts s) : Ok ts (tierS ts s).2 := ((((h.numS _ _).wnt _).numS _ _).wnt _)
theorem Ok.tiersS {ts : List Tok} : ∀ (n : Nat) (s : St) (acc : List Tier), Ok ts s → Ok ts (tiersS ts n s acc).2
  | 0, _, _, h => h
  | n + 1, s, acc, h => by
    unfold P.tiersS
    split
    · rename_i ho; exact Ok.tiersS n _ _ (h.next (onW_k ho)).tierS
    · exact h
theorem Ok.adjS {ts : List Tok} {s : St} (h : Ok ts s) (k : Int) : Ok ts (adjS ts s k).2 := by
  unfold P.adjS
  split
  · exact ((h.numS _ _).modeS).wnt _
  · exact (h.numS _ _).wnt _
theorem Ok.adjsS {ts : List Tok} : ∀ (n : Nat) (s : St) (acc : List Adj), Ok ts s → Ok ts (adjsS ts n s acc).2
  | 0, _, _, h => h
  | n + 1, s, acc, h => by
    unfold P.adjsS
    simp only
    split
    · exact h.oneS _
    · exact Ok.adjsS n _ _ ((h.oneS _).adjS _)
theorem Ok.kindS {ts : List Tok} {s : St} (h : Ok ts s) : Ok ts (kindS ts s).2 := by
  unfold P.kindS
  simp only
  split
  · exact (h.oneS _).wrg 4
  · exact h.oneS _
theorem Ok.chargeS {ts : List Tok} {s : St} (h : Ok ts s) (line col : Int) : Ok ts (chargeS ts s line col).2 :=
  (Ok.adjsS _ _ _ ((((((((((Ok.tiersS _ _ _ ((((((h.tkn (by decide)).winS.wnt _).optS _ _).optS _ _).kindS).wnt _)).wnt _).wnt _).numS _ _).wnt _).wnt _).wnt _).modeS).wnt _))).wnt _
theorem Ok.meterS {ts : List Tok} {s : St} (h : Ok ts s) (line col : Int) : Ok ts (meterS ts s line col).2 :=
  ((((((h.tkn (by decide)).wnt _).tkn (by decide)).wnt _).numS _ _).wnt _)
theorem Ok.feeS {ts : List Tok} {s : St} (h : Ok ts s) (line col : Int) : Ok ts (feeS ts s line col).2 := ((h.numS _ _).winS.wnt _)
theorem Ok.itemS {ts : List Tok} {s : St} (h : Ok ts s) (p : Plan) : Ok ts (itemS ts s p).2 := by
  unfold P.itemS
  simp only
  repeat' split
  · exact (h.oneS _).meterS (tk ts s).ln (tk ts s).cl
  · exact (h.oneS _).feeS (tk ts s).ln (tk ts s).cl
  · exact (h.oneS _).chargeS (tk ts s).ln (tk ts s).cl
  · exact (h.oneS _).wrg 4
theorem Ok.itemsS {ts : List Tok} : ∀ (n : Nat) (s : St) (p : Plan), Ok ts s → Ok ts (itemsS ts n s p).2
  | 0, _, _, h => h
  | n + 1, s, p, h => by
    unfold P.itemsS
    split
    · exact Ok.itemsS n _ _ (h.itemS p)
    · exact h
theorem Ok.headS {ts : List Tok} {s : St} (h : Ok ts s) : Ok ts (headS ts s).2 :=
  ((((((((h.wnt _).tkn (by decide)).wnt _).tkn (by decide)).wnt _).wnt _).dayS).dayS).wnt _
/-- How far the parser is: as far as before at least. -/
theorem wrg_le (ts : List Tok) (s : St) (e : Int) : s.i ≤ (wrg ts s e).i := by rw [wrg_i]; exact Nat.le_refl _
theorem wnt_le (ts : List Tok) (s : St) (l : List UInt8) : s.i ≤ (wnt ts s l).i := by
  unfold wnt
  split
  · show s.i ≤ s.i + 1; omega
  · exact wrg_le _ _ _
theorem tkn_le (ts : List Tok) (s : St) (k : Nat) : s.i ≤ (tkn ts s k).2.i := by
  unfold tkn
  split
  · show s.i ≤ s.i + 1; omega
  · exact wrg_le _ _ _
theorem bad_i (ts : List Tok) (s : St) (v : Int) : (bad ts s v).i = s.i := by
  unfold bad
  repeat' split
  · exact wrg_i ..
  · exact wrg_i ..
  · rfl
theorem numS_le (ts : List Tok) (s : St) (p m : Int) : s.i ≤ (numS ts s p m).2.i := by
  unfold numS
  split
  · show s.i ≤ (bad ts s _).i + 1; rw [bad_i]; omega
  · exact wrg_le _ _ _
theorem oneAt_le (ts : List Tok) (s : St) : ∀ (ws : List (List UInt8)) (k : Int), s.i ≤ (oneAt ts s ws k).2.i
  | [], _ => Nat.le_refl _
  | w :: r, k => by
    unfold oneAt
    split
    · show s.i ≤ s.i + 1; omega
    · exact oneAt_le ts s r (k + 1)
theorem modeS_le (ts : List Tok) (s : St) : s.i ≤ (modeS ts s).2.i := by
  unfold modeS
  split
  · exact Nat.le_trans (oneAt_le ts s _ 0) (wrg_le _ _ _)
  · exact oneAt_le ts s _ 0
theorem tierS_le (ts : List Tok) (s : St) : s.i ≤ (tierS ts s).2.i :=
  Nat.le_trans (numS_le ts s 0 1000000) (Nat.le_trans (wnt_le ts _ wRate) (Nat.le_trans (numS_le ts _ 6 1000000000000) (wnt_le ts _ sSemi)))
theorem adjS_le (ts : List Tok) (s : St) (k : Int) : s.i ≤ (adjS ts s k).2.i := by
  unfold adjS
  split
  · exact Nat.le_trans (numS_le ts s 3 100000000) (Nat.le_trans (modeS_le ts _) (wnt_le ts _ sSemi))
  · exact Nat.le_trans (numS_le ts s 0 1000000000000) (wnt_le ts _ sSemi)
theorem oneAt_yes (ts : List Tok) (s : St) : ∀ (ws : List (List UInt8)) (k : Int), 0 ≤ k → 0 ≤ (oneAt ts s ws k).1 → (oneAt ts s ws k).2.i = s.i + 1
  | [], _, _, h => by exact absurd (show (0 : Int) ≤ -1 from h) (by decide)
  | w :: r, k, hk, h => by
    unfold oneAt at h ⊢
    split
    · rfl
    · rename_i hn
      rw [if_neg hn] at h
      exact oneAt_yes ts s r (k + 1) (by omega) h
theorem oneAt_no (ts : List Tok) (s : St) : ∀ (ws : List (List UInt8)) (k : Int), 0 ≤ k → (oneAt ts s ws k).1 < 0 → oneAt ts s ws k = (-1, s)
  | [], _, _, _ => rfl
  | w :: r, k, hk, h => by
    unfold oneAt at h ⊢
    split
    · rename_i hy
      rw [if_pos hy] at h
      exact absurd h (by show ¬ k < 0; omega)
    · rename_i hn
      rw [if_neg hn] at h
      exact oneAt_no ts s r (k + 1) (by omega) h
/-- With fuel enough it does not matter how much. -/
theorem tiers_fuel (ts : List Tok) : ∀ (n m : Nat) (s : St) (acc : List Tier), Ok ts s → ts.length ≤ n + s.i → ts.length ≤ m + s.i → tiersS ts n s acc = tiersS ts m s acc
  | 0, m, s, acc, h, hn, _ => by have := h.lt; omega
  | n + 1, 0, s, acc, h, _, hm => by have := h.lt; omega
  | n + 1, m + 1, s, acc, h, hn, hm => by
    unfold tiersS
    split
    · rename_i ho
      have o1 := h.next (onW_k ho)
      have l1 := tierS_le ts s.next
      have e1 : s.next.i = s.i + 1 := rfl
      exact tiers_fuel ts n m _ _ o1.tierS (by omega) (by omega)
    · rfl
theorem adjs_fuel (ts : List Tok) : ∀ (n m : Nat) (s : St) (acc : List Adj), Ok ts s → ts.length ≤ n + s.i → ts.length ≤ m + s.i → adjsS ts n s acc = adjsS ts m s acc
  | 0, m, s, acc, h, hn, _ => by have := h.lt; omega
  | n + 1, 0, s, acc, h, _, hm => by have := h.lt; omega
  | n + 1, m + 1, s, acc, h, hn, hm => by
    unfold adjsS
    simp only
    split
    · rfl
    · rename_i ho
      have o1 := h.oneS adjWords
      have l2 := adjS_le ts (oneS ts s adjWords).2 (1 + (oneS ts s adjWords).1)
      have e1 : (oneS ts s adjWords).2.i = s.i + 1 := by
        refine oneAt_yes ts s adjWords 0 (Int.le_refl _) ?_
        rcases Int.lt_or_le (oneS ts s adjWords).1 0 with h0 | h0
        · have : oneS ts s adjWords = (-1, s) := oneAt_no ts s adjWords 0 (Int.le_refl _) h0
          rw [this] at ho
          exact absurd rfl ho
        · exact h0
      exact adjs_fuel ts n m _ _ (o1.adjS _) (by omega) (by omega)
end Go.Proofs.YteelbdcgdkpioaaGreatDoor.P
/- The shortest text of a number with a point, as plain arithmetic: no program is named here. -/
namespace Go.Proofs.YteelbdcgdkpioaaGreatDoor.P
open Go.RowKit

/-- The digits behind the point, of so many places: noughts at the end are left out. -/
def fs (n : Nat) : Nat → List UInt8
  | 0 => []
  | k + 1 => if fs n k ≠ [] ∨ n / 10 ^ k % 10 ≠ 0 then dch (n / 10 ^ k % 10) :: fs n k else []
theorem fs_yes {n k : Nat} (h : fs n k ≠ [] ∨ n / 10 ^ k % 10 ≠ 0) : fs n (k + 1) = dch (n / 10 ^ k % 10) :: fs n k := by rw [fs, if_pos h]
theorem fs_no {n k : Nat} (h : fs n k = []) (h2 : n / 10 ^ k % 10 = 0) : fs n (k + 1) = [] := by
  rw [fs, if_neg]
  rintro (a | a)
  · exact a h
  · exact a h2
theorem fs_length (n : Nat) : ∀ k, (fs n k).length ≤ k
  | 0 => by simp [fs]
  | k + 1 => by
    have := fs_length n k
    rw [fs]
    split
    · simp; omega
    · simp
/-- The point and what stands behind it. -/
def tail (n places : Nat) : List UInt8 := if fs n places = [] then [] else 46 :: fs n places
def tx (n places : Nat) : List UInt8 := Lib.decDigits (n / 10 ^ places) ++ tail n places
theorem tail_length (n places : Nat) : (tail n places).length ≤ places + 1 := by
  have := fs_length n places
  unfold tail
  split
  · simp
  · simp; omega
theorem tx_length {n places : Nat} (hn : n < 18446744073709551616) (hp : places ≤ 9) : (tx n places).length ≤ 30 := by
  have h1 : n / 10 ^ places ≤ n := Nat.div_le_self _ _
  have h2 := Lib.nDigits_le20 (n / 10 ^ places) (by omega)
  have h3 := tail_length n places
  unfold tx
  rw [List.length_append, Lib.decDigits_length]
  omega
theorem dec_last {q : Nat} (h : q < 10) : Lib.decDigits q = [dch q] := by rw [Lib.decDigits_one h]; rfl
theorem dec_more {q : Nat} (h : ¬ q < 10) : Lib.decDigits q = Lib.decDigits (q / 10) ++ [dch (q % 10)] := by
  conv => lhs; rw [Lib.decDigits, dif_neg h]
  rfl
end Go.Proofs.YteelbdcgdkpioaaGreatDoor.P
/- A plan as its one plain text: plain functions: no program is named here. -/
namespace Go.Proofs.YteelbdcgdkpioaaGreatDoor.P
open Go.RowKit Mm

def dayT (d : Day) : List UInt8 := if good d.y d.m d.d then txt d.y d.m d.d else []
def bFrom : List UInt8 := [32, 102, 114, 111, 109, 32]
def bTo : List UInt8 := [32, 116, 111, 32]
def winT (w : Win) : List UInt8 := if w.has then bFrom ++ dayT w.a ++ bTo ++ dayT w.b else []
def nmbT (n : Int) : List UInt8 := Lib.decDigits n.toNat
def decT (n : Int) (places : Nat) : List UInt8 := tx n.toNat places
def modeT (m : Int) : List UInt8 := if m = 0 then [102, 108, 111, 111, 114] else if m = 1 then [99, 101, 105, 108] else if m = 2 then [104, 97, 108, 102, 117, 112] else if m = 3 then [104, 97, 108, 102, 101, 118, 101, 110] else []
def kindT (k : Int) : List UInt8 := if k = 1 then wGraduated else if k = 2 then wVolume else []
/-- A line, within so many braces. -/
def ln (d : Nat) (s : List UInt8) : List UInt8 := List.replicate d 9 ++ s ++ [10]
/-- A line of words, closed by its sign. -/
def tellT (d : Nat) (ws : List (List UInt8)) : List UInt8 := ln d (Lib.join ws [32] ++ [59])
def meterT (m : Meter) : List UInt8 := tellT 0 [wMeter, m.name.data.toList, wUnit, m.unit.data.toList, wMax, nmbT m.max]
def feeT (f : Fee) : List UInt8 := tellT 0 [wFee, nmbT f.amount ++ winT f.win]
def bRest : List UInt8 := [114, 101, 115, 116, 32, 114, 97, 116, 101]
def tierT (last : Bool) (t : Tier) : List UInt8 := if last then tellT 2 [bRest, decT t.rate 6] else tellT 2 [wUpto, nmbT t.upto, wRate, decT t.rate 6]
/-- The lines of the first tiers. -/
def tiersUp (ts : List Tier) : Nat → List UInt8
  | 0 => []
  | i + 1 => tiersUp ts i ++ tierT (decide (i + 1 = ts.length)) (ts.getD i default)
def adjT (a : Adj) : List UInt8 :=
  if a.kind = 1 then tellT 1 [wPercent, decT a.num 3, modeT a.mode] else if a.kind = 2 then tellT 1 [wCap, nmbT a.num] else if a.kind = 3 then tellT 1 [wMinimum, nmbT a.num] else if a.kind = 4 then tellT 1 [wAdd, nmbT a.num] else []
def chargeT (c : Charge) : List UInt8 :=
  ln 0 (wCharge ++ [32] ++ c.meter.data.toList ++ winT c.win ++ [32, 123]) ++ (if c.allowance = 0 then [] else tellT 1 [wAllowance, nmbT c.allowance]) ++ (if c.block = 1 then [] else tellT 1 [wBlock, nmbT c.block]) ++
    (ln 1 (kindT c.kind ++ [32, 123]) ++ tiersUp c.tiers c.tiers.length ++ ln 1 [125]) ++ tellT 1 [wRound, modeT c.mode] ++ c.adjusts.flatMap adjT ++ ln 0 [125]
def headT8 (p : Plan) : List UInt8 := tellT 0 [wPlan, p.name.data.toList, wCurrency, p.cur.data.toList] ++ tellT 0 [wHorizon, dayT p.a, dayT p.b]
def planT (p : Plan) : List UInt8 := headT8 p ++ p.meters.flatMap meterT ++ p.fees.flatMap feeT ++ p.charges.flatMap chargeT

/-! How long. -/
theorem dayT_len (d : Day) : (dayT d).length ≤ 10 := by
  unfold dayT
  split
  · rw [txt_length]; exact Nat.le_refl _
  · simp
theorem winT_len (w : Win) : (winT w).length ≤ 30 := by
  have h1 := dayT_len w.a
  have h2 := dayT_len w.b
  unfold winT
  split
  · simp only [List.length_append, bFrom, bTo, List.length_cons, List.length_nil]; omega
  · simp
theorem modeT_len (m : Int) : (modeT m).length ≤ 8 := by
  unfold modeT
  repeat' split
  all_goals simp
theorem nmbT_len {n : Int} (h1 : I64 n) : (nmbT n).length ≤ 20 := by
  unfold nmbT
  rw [Lib.decDigits_length]
  have : n.toNat < 10 ^ 20 := by unfold I64 at h1; omega
  exact nDigits_le 19 _ this
theorem decT_len {n : Int} {p : Nat} (h1 : I64 n) (hp : p ≤ 9) : (decT n p).length ≤ 30 := tx_length (by unfold I64 at h1; omega) hp
/-- A plan whose text is told: its numbers aren't below 0, its kinds are, and it isn't great. -/
structure ShT (c : Charge) : Prop where
  kind : c.kind = 1 ∨ c.kind = 2
  nums : 0 ≤ c.allowance ∧ 0 ≤ c.block
  tiers : ∀ t ∈ c.tiers, (0 ≤ t.upto ∧ I64 t.upto) ∧ 0 ≤ t.rate ∧ I64 t.rate
  adjs : ∀ a ∈ c.adjusts, (0 ≤ a.num ∧ I64 a.num) ∧ I64 a.kind ∧ I64 a.mode
  cnt : c.tiers.length ≤ 20000 ∧ c.adjusts.length ≤ 20000
  name : c.meter.size ≤ 100000
  i64 : (I64 c.allowance ∧ I64 c.block) ∧ I64 c.kind ∧ I64 c.mode
  win : winOk c.win
structure Sh (p : Plan) : Prop where
  meters : ∀ m ∈ p.meters, (m.name.size ≤ 100000 ∧ m.unit.size ≤ 100000) ∧ 0 ≤ m.max ∧ I64 m.max
  fees : ∀ f ∈ p.fees, (0 ≤ f.amount ∧ I64 f.amount) ∧ winOk f.win
  charges : ∀ c ∈ p.charges, ShT c
  cnt : p.meters.length ≤ 20000 ∧ p.fees.length ≤ 20000 ∧ p.charges.length ≤ 20000
  name : p.name.size ≤ 100000 ∧ p.cur.size ≤ 100000
theorem join2 (a b : List UInt8) : Lib.join [a, b] [32] = a ++ [32] ++ b := by rw [Lib.join_cons]; simp [Lib.joinTail]
theorem join3 (a b c : List UInt8) : Lib.join [a, b, c] [32] = a ++ [32] ++ b ++ [32] ++ c := by rw [Lib.join_cons]; simp [Lib.joinTail]
theorem join4 (a b c d : List UInt8) : Lib.join [a, b, c, d] [32] = a ++ [32] ++ b ++ [32] ++ c ++ [32] ++ d := by rw [Lib.join_cons]; simp [Lib.joinTail]
theorem join6 (a b c d e f : List UInt8) : Lib.join [a, b, c, d, e, f] [32] = a ++ [32] ++ b ++ [32] ++ c ++ [32] ++ d ++ [32] ++ e ++ [32] ++ f := by rw [Lib.join_cons]; simp [Lib.joinTail]
theorem size_list (s : ByteArray) : s.data.toList.length = s.size := by simp
theorem meterT_len {m : Meter} (h : (m.name.size ≤ 100000 ∧ m.unit.size ≤ 100000) ∧ 0 ≤ m.max ∧ I64 m.max) : (meterT m).length ≤ 300000 := by
  have h1 := nmbT_len h.2.2
  have h2 := h.1
  unfold meterT tellT ln
  rw [join6]
  simp only [List.length_append, List.length_replicate, List.length_cons, List.length_nil, size_list, wMeter, wUnit, wMax]
  omega
theorem feeT_len {f : Fee} (h : (0 ≤ f.amount ∧ I64 f.amount) ∧ winOk f.win) : (feeT f).length ≤ 300000 := by
  have h1 := nmbT_len h.1.2
  have h2 := winT_len f.win
  unfold feeT tellT ln
  rw [join2]
  simp only [List.length_append, List.length_replicate, List.length_cons, List.length_nil, wFee]
  omega
theorem tierT_len {b : Bool} {t : Tier} (h : (0 ≤ t.upto ∧ I64 t.upto) ∧ 0 ≤ t.rate ∧ I64 t.rate) : (tierT b t).length ≤ 100 := by
  have h1 := nmbT_len h.1.2
  have h2 := decT_len (p := 6) h.2.2 (by decide)
  unfold tierT tellT ln
  split
  · rw [join2]
    simp only [List.length_append, List.length_replicate, List.length_cons, List.length_nil, bRest]
    omega
  · rw [join4]
    simp only [List.length_append, List.length_replicate, List.length_cons, List.length_nil, wUpto, wRate]
    omega
theorem adjT_len {a : Adj} (h : (0 ≤ a.num ∧ I64 a.num) ∧ I64 a.kind ∧ I64 a.mode) : (adjT a).length ≤ 100 := by
  have h1 := nmbT_len h.1.2
  have h2 := decT_len (p := 3) h.1.2 (by decide)
  have h3 := modeT_len a.mode
  unfold adjT tellT ln
  repeat' split
  all_goals first | rw [join3] | rw [join2] | skip
  all_goals simp only [List.length_append, List.length_replicate, List.length_cons, List.length_nil, wPercent, wCap, wMinimum, wAdd]
  all_goals omega
theorem tiersUp_len {ts : List Tier} (h : ∀ t ∈ ts, (0 ≤ t.upto ∧ I64 t.upto) ∧ 0 ≤ t.rate ∧ I64 t.rate) : ∀ i, i ≤ ts.length → (tiersUp ts i).length ≤ i * 100
  | 0, _ => Nat.le_refl _
  | i + 1, hi => by
    have e := tiersUp_len h i (by omega)
    have hm : ts.getD i default ∈ ts := by rw [List.getD_eq_getElem?_getD, List.getElem?_eq_getElem (by omega)]; exact List.getElem_mem _
    have k := tierT_len (b := decide (i + 1 = ts.length)) (h _ hm)
    rw [tiersUp, List.length_append]
    omega
theorem flat_le {α : Type} {f : α → List UInt8} {n : Nat} : ∀ (l : List α), (∀ x ∈ l, (f x).length ≤ n) → (l.flatMap f).length ≤ l.length * n
  | [], _ => by simp
  | a :: r, h => by
    have e := flat_le r (fun x hx => h x (List.mem_cons_of_mem _ hx))
    have k := h a (List.mem_cons_self ..)
    rw [List.flatMap_cons, List.length_append, List.length_cons, Nat.succ_mul]
    omega
theorem chargeT_len {c : Charge} (h : ShT c) : (chargeT c).length ≤ 5000000 := by
  have h1 := nmbT_len h.i64.1.1
  have h2 := nmbT_len h.i64.1.2
  have h3 := winT_len c.win
  have h4 := modeT_len c.mode
  have h5 := tiersUp_len h.tiers c.tiers.length (Nat.le_refl _)
  have h6 := flat_le (f := adjT) (n := 100) c.adjusts (fun a ha => adjT_len (h.adjs a ha))
  have h7 := h.cnt
  have h8 := h.name
  have h9 : (kindT c.kind).length ≤ 9 := by
    unfold kindT
    repeat' split
    all_goals simp [wGraduated, wVolume]
  have g1 : (if c.allowance = 0 then [] else tellT 1 [wAllowance, nmbT c.allowance]).length ≤ 50 := by
    split
    · simp
    · unfold tellT ln
      rw [join2]
      simp only [List.length_append, List.length_replicate, List.length_cons, List.length_nil, wAllowance]
      omega
  have g2 : (if c.block = 1 then [] else tellT 1 [wBlock, nmbT c.block]).length ≤ 50 := by
    split
    · simp
    · unfold tellT ln
      rw [join2]
      simp only [List.length_append, List.length_replicate, List.length_cons, List.length_nil, wBlock]
      omega
  have g3 : (tellT 1 [wRound, modeT c.mode]).length ≤ 50 := by
    unfold tellT ln
    rw [join2]
    simp only [List.length_append, List.length_replicate, List.length_cons, List.length_nil, wRound]
    omega
  unfold chargeT
  simp only [List.length_append, ln, List.length_replicate, List.length_cons, List.length_nil, size_list, wCharge]
  omega
theorem take_flat_len {α : Type} {f : α → List UInt8} {n : Nat} (l : List α) (h : ∀ x ∈ l, (f x).length ≤ n) (i : Nat) : ((l.take i).flatMap f).length ≤ l.length * n :=
  Nat.le_trans (flat_le _ fun x hx => h x (List.mem_of_mem_take hx)) (Nat.mul_le_mul_right n (by rw [List.length_take]; omega))
end Go.Proofs.YteelbdcgdkpioaaGreatDoor.P

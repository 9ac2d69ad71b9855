/- Plans without places, and their rows of texts, as plain data: two rows are the same just if the plans are, but for places. -/
import Derived.Test.YtghhnimimccpoaaJRef6g
import Derived.OneCell
import Derived.Maps.AppendAt
import Derived.Test.YtghhnimimccpoaaJDatB
import Derived.Test.YtghhnimimccpoaaJRef6
import Derived.Test.YtghhnimimccpoaaRows
import Derived.WalkKit
import Derived.ProofKit
import Derived.BigQuiet
import Derived.Deep.QuietTactic
import Derived.Deep.CutBlock
import Derived.Deep.CutRange
import Derived.Deep.DeepCutAuto
import Derived.Lib.QuietBelow
import Derived.Deep.MidRow
import Derived.Deep.WholeRow
import Derived.Deep.Onto
import Derived.Deep.Quiet
import Derived.Laws.OwnMore
namespace Go.Proofs.Ytghhnimimccpoaa.Mm
end Go.Proofs.Ytghhnimimccpoaa.Mm
namespace Go.Proofs.Ytghhnimimccpoaa.P
end Go.Proofs.Ytghhnimimccpoaa.P
namespace Go.Proofs.Ytghhnimimccpoaa.R6
end Go.Proofs.Ytghhnimimccpoaa.R6
namespace Go.Proofs.Ytghhnimimccpoaa.R6
open Go.RowKit Mm P
/-- What a plan in memory is: numbers of 64 bits. -/
structure PlanOk (p : Plan) : Prop where
  days : dayOk p.a ∧ dayOk p.b
  meters : ∀ m ∈ p.meters, I64 m.max
  fees : ∀ f ∈ p.fees, I64 f.amount ∧ winOk f.win
  charges : ∀ c ∈ p.charges, winOk c.win ∧ (I64 c.allowance ∧ I64 c.block ∧ I64 c.kind ∧ I64 c.mode) ∧ (∀ t ∈ c.tiers, I64 t.upto ∧ I64 t.rate) ∧ ∀ a ∈ c.adjusts, I64 a.kind ∧ I64 a.num ∧ I64 a.mode
end Go.Proofs.Ytghhnimimccpoaa.R6
/- Plans whose rows a call has made: each in a block of its own, new and free to write. -/
namespace Go.Proofs.Ytghhnimimccpoaa.Mm
open Go.RowKit Go.Deep P R6
/-- The rows of a plan. -/
inductive Slot where
  | m
  | f
  | c
  | t (i : Nat)
  | a (i : Nat)
deriving DecidableEq
/-- A row: its elements' type and size, its slice, its cells. -/
structure R where
  e : TypeId
  size : Nat
  a : Option Addr
  n : Nat
  cap : Nat
  xs : List Value
def R.v (r : R) : Value := .slice r.a r.n r.cap
/-- Rows, each owned, each in another block. -/
structure Owns (w : World) (base : Nat) (ρ : Slot → Option R) : Prop where
  own : ∀ s r, ρ s = some r → w.ownsRow base r.e r.size r.v r.n r.xs
  apart : ∀ s t r r' k, ρ s = some r → ρ t = some r' → r.v.ownBlock = some k → r'.v.ownBlock = some k → s = t
theorem Owns.on {w w' : World} {base : Nat} {ρ : Slot → Option R} (h : Owns w base ρ) (b : Below w.heap.size w w') : Owns w' base ρ := ⟨fun s r hs => owns_on (h.own s r hs) b, h.apart⟩
/-- What stands in a plan fits into its cells. -/
structure Fits (p : Plan) : Prop where
  meters : ∀ m ∈ p.meters, strOk m.name ∧ strOk m.unit ∧ I64 m.max ∧ I64 m.line ∧ I64 m.col
  fees : ∀ f ∈ p.fees, I64 f.amount ∧ winOk f.win ∧ I64 f.line ∧ I64 f.col
  charges : ∀ c ∈ p.charges, strOk c.meter ∧ winOk c.win ∧ (I64 c.allowance ∧ I64 c.block ∧ I64 c.kind ∧ I64 c.mode ∧ I64 c.line ∧ I64 c.col) ∧ (∀ t ∈ c.tiers, I64 t.upto ∧ I64 t.rate) ∧ ∀ a ∈ c.adjusts, I64 a.kind ∧ I64 a.num ∧ I64 a.mode
  name : strOk p.name ∧ strOk p.cur
  days : dayOk p.a ∧ dayOk p.b
  place : I64 p.line ∧ I64 p.col
theorem zip_get {α β : Type} {l : List α} {m : List β} {i : Nat} {a : α} {b : β} (h : l[i]? = some a) (k : m[i]? = some b) : (l.zip m)[i]? = some (a, b) := by
  rw [List.getElem?_zip_eq_some]; exact ⟨h, k⟩
/-- A struct's block. -/
structure Box (W : World) (b : Nat) (cs : List Value) : Prop where
  lt : b < W.heap.size
  cell : ∀ j u, cs[j]? = some u → W.cell? ⟨b, j, none⟩ = some u
  free : ∀ j, W.frozen? ⟨b, j, none⟩ = false
theorem Box.new (w : World) (cs : List Value) (t : TypeId) : Box (w.alloc (.cells cs.toArray t)) w.heap.size cs := by
  refine ⟨by simp, fun j u h => ?_, fun j => ?_⟩
  · rw [World.cell?_alloc_new]
    simpa using h
  · simp
theorem Box.on {W W' : World} {b : Nat} {cs : List Value} (h : Box W b cs) (hb : Below W.heap.size W W') : Box W' b cs :=
  ⟨Nat.lt_of_lt_of_le h.lt hb.size, fun j u k => by rw [hb.cell h.lt]; exact h.cell j u k, fun j => by rw [hb.frozen h.lt]; exact h.free j⟩
theorem Box.grown {W W' : World} {b : Nat} {cs : List Value} (h : Box W b cs) {row : Option Nat} (hg : W.grownBy W' row) (hne : some b ≠ row) : Box W' b cs :=
  ⟨Nat.lt_of_lt_of_le h.lt hg.size, fun j u k => by rw [World.cell?_of_block (w := W) (hg.block b h.lt hne)]; exact h.cell j u k, fun j => by rw [World.frozen?_of_block (w := W) (hg.block b h.lt hne)]; exact h.free j⟩
theorem Box.other {W : World} {b : Nat} {cs : List Value} (h : Box W b cs) {p : Addr} (hp : b ≠ p.block) (u : Value) : Box (W.setCell p u) b cs :=
  ⟨by simpa using h.lt, fun j v k => by rw [World.cell?_of_block (w := W) (Below.heap_setCell _ _ _ _ hp)]; exact h.cell j v k, fun j => by rw [World.frozen?_of_block (w := W) (Below.heap_setCell _ _ _ _ hp)]; exact h.free j⟩
theorem Box.set {W : World} {b : Nat} {cs : List Value} (h : Box W b cs) (i : Nat) (u : Value) : Box (W.setCell ⟨b, i, none⟩ u) b (cs.set i u) := by
  refine ⟨by simpa using h.lt, fun j v k => ?_, fun j => ?_⟩
  · rw [List.getElem?_set] at k
    split at k
    · rename_i e
      subst e
      split at k
      · rename_i hi
        obtain rfl : u = v := by simpa using k
        have := h.cell i (cs[i]'hi) (List.getElem?_eq_getElem hi)
        exact World.cell?_setCell_same (h := this) ..
      · cases k
    · rename_i e
      rw [World.cell?_setCell_other (h := show (⟨b, i, none⟩ : Addr) ≠ ⟨b, j, none⟩ by simp only [ne_eq, Addr.mk.injEq, and_true, true_and]; exact e) ..]
      exact h.cell j v k
  · simpa using h.free j
end Go.Proofs.Ytghhnimimccpoaa.Mm
/- Runs of lines in memory (layer 14), and the document's lines (poundageref14): At, Runs. -/
namespace Go.Proofs.Ytghhnimimccpoaa.Mm
open Go.RowKit Go.Deep P R6
def rnC (r : Rn Int) : List Value := [.int .i64 r.a, .int .i64 r.b, .int .i64 r.v]
def RnOk (r : Rn Int) : Prop := I64 r.a ∧ I64 r.b ∧ I64 r.v
def tRn : Ty (Rn Int) := leaf 3 rnC RnOk (fun _ => rfl)
theorem rn_at {w : World} {ao : Option Addr} {len cap : Nat} {xs : List (Rn Int)} (h : Row tRn w ao len cap xs) {j : Nat} {r : Rn Int} (hj : xs[j]? = some r) :
    ∃ b o, ao = some ⟨b, o, none⟩ ∧ b < w.heap.size ∧ w.cell? ⟨b, o + j * 3, none⟩ = some (.int .i64 r.a) ∧ w.cell? ⟨b, o + j * 3 + 1, none⟩ = some (.int .i64 r.b) ∧ w.cell? ⟨b, o + j * 3 + 2, none⟩ = some (.int .i64 r.v) ∧ RnOk r := by
  obtain ⟨b, o, cs, h1, h2, ⟨h3, h5⟩, h4⟩ := h.at hj
  subst h3
  exact ⟨b, o, h1, h2, lies0 (h4 0 _ rfl), h4 1 _ rfl, h4 2 _ rfl, h5⟩
theorem int_at {w : World} {bo : Option Addr} {len cap : Nat} {bk : List Int} (h : Row tInt w bo len cap bk) {i : Nat} {v : Int} (hj : bk[i]? = some v) : ∃ b o, bo = some ⟨b, o, none⟩ ∧ b < w.heap.size ∧ w.cell? ⟨b, o + i, none⟩ = some (.int .i64 v) ∧ I64 v := by
  obtain ⟨b, o, cs, h1, h2, ⟨h3, h5⟩, h4⟩ := h.at hj
  subst h3
  refine ⟨b, o, h1, h2, ?_, h5⟩
  have := h4 0 _ rfl
  rw [show tInt.n = 1 from rfl, Nat.mul_one] at this
  exact this
theorem box_row {α : Type} {n : Nat} {cells : α → List Value} {ok : α → Prop} {hn : ∀ x, (cells x).length = n} {W : World} {k : Nat} {xs : List α} (X : Box W k (xs.flatMap cells)) (hok : ∀ x ∈ xs, ok x) (hl : xs.length ≤ 1000) :
    Row (leaf n cells ok hn) W (some ⟨k, 0, none⟩) xs.length xs.length xs :=
  ⟨rfl, Nat.le_refl _, by omega, fun _ => ⟨k, 0, rfl, X.lt, fun j x hj => ⟨cells x, ⟨rfl, hok x (List.mem_of_getElem? hj)⟩, fun i v hi => by
    have := X.cell (j * n + i) v (flat_get hn xs j x i v hj hi)
    show W.cell? ⟨k, 0 + j * n + i, none⟩ = some v
    rw [Nat.zero_add]
    exact this⟩⟩⟩
/-- Within 2^42: what lines' numbers are. -/
def Lim (n : Int) : Prop := -4398046511104 ≤ n ∧ n ≤ 4398046511104
theorem wrap_l {n : Int} (h : I64 n) : IntKind.i64.wrap n = n := by
  unfold I64 at h
  rw [IntKind.wrap_i64 n]
  omega
theorem runs_ok {k : Int} {l : List Int} (hk : Lim k) (hl : l.length ≤ 4398046511104) (hv : ∀ v ∈ l, I64 v) : ∀ r ∈ runsF k l, RnOk r := fun r hr => by
  obtain ⟨h1, h2, h3, h4⟩ := runs_in l k r hr
  unfold Lim at hk
  exact ⟨by unfold I64; omega, by unfold I64; omega, hv _ h4⟩
theorem row_vals {w : World} {ao : Option Addr} {len cap : Nat} {xs : List Int} (h : Row tInt w ao len cap xs) : ∀ v ∈ xs, I64 v := fun v hv => by
  obtain ⟨j, hj, e⟩ := List.mem_iff_getElem.1 hv
  obtain ⟨_, _, _, _, _, h2⟩ := int_at h (show xs[j]? = some v by rw [← e]; exact List.getElem?_eq_getElem hj)
  exact h2
end Go.Proofs.Ytghhnimimccpoaa.Mm
namespace Go.Proofs.Ytghhnimimccpoaa.R14
open Go.RowKit Go.Sort P Mm R6
theorem atL_lt {k x : Int} {l : List Int} (h : x < k) : atL k l x = none := by unfold atL; rw [if_pos h]
theorem atL_gt {k x : Int} {l : List Int} (h : k + l.length ≤ x) : atL k l x = none := by
  unfold atL
  split
  · rfl
  · rw [List.getElem?_eq_none (by omega)]
theorem atL_in {k x : Int} {l : List Int} {v : Int} (h : ¬ x < k) (e : l[(x - k).toNat]? = some v) : atL k l x = some v := by
  unfold atL
  rw [if_neg h, e]
set_option maxHeartbeats 1600000 in
set_option maxRecDepth 100000 in
/-- The value at a number of a line of the document's. -/
theorem at_any (k x : Int) (l : List Int) (ao : Option Addr) (cap : Nat) (w : World) (hl : Row tInt w ao l.length cap l) (hk : Lim k) (hx : Lim x) :
    Calls Try.prog 38 #[.agg #[.int .i64 k, .slice ao l.length cap], .int .i64 x] w fun e w' => e = .returned (.tuple #[.int .i64 (vO (atL k l x)), .bool (bO (atL k l x))]) ∧ Below w.heap.size w w' := by
  obtain ⟨w1, hw1⟩ : ∃ W, W = w.alloc (.cells ([.int .i64 k, .slice ao l.length cap] : List Value).toArray 30) := ⟨_, rfl⟩
  obtain ⟨k1, hk1⟩ : ∃ k, k = w.heap.size := ⟨_, rfl⟩
  have b1 : Below w.heap.size w w1 := by rw [hw1]; exact bel_alloc _ _
  have X1 : Box w1 k1 [.int .i64 k, .slice ao l.length cap] := by rw [hw1, hk1]; exact Box.new w _ _
  have HL := hid (hl.on b1)
  have c0 := X1.cell 0 _ rfl
  have c1 := X1.cell 1 _ rfl
  have l1 := X1.lt
  have HW := hid hw1
  have HK := hid hk1
  have BF := hid b1
  have lm := hl.hmax
  have lc := hl.hcap
  unfold Lim at hk hx
  have wr : IntKind.i64.wrap (x - k) = x - k := wrap_l (by unfold I64; omega)
  clear hw1 hk1 X1 b1 hl
  by_cases h1 : x < k
  · have z1 : decide (x < k) = true := decide_eq_true h1
    have E := hid (atL_lt (l := l) h1)
    rw [E.out, show vO none = 0 from rfl, show bO none = false from rfl]
    clear E h1
    go_enter Try.func38, Try.ntmps38
    go_upto_region 1 with fail
    rw [← HW.out, ← HK.out]
    clear HW HK
    go_wp2
    go_ret2
    exact ⟨rfl, BF.out⟩
  have z1 : decide (x < k) = false := decide_eq_false h1
  by_cases h2 : (l.length : Int) ≤ x - k
  · have z2 : decide ((l.length : Int) ≤ x - k) = true := decide_eq_true h2
    have E := hid (atL_gt (k := k) (x := x) (l := l) (by omega))
    rw [E.out, show vO none = 0 from rfl, show bO none = false from rfl]
    clear E h2
    go_enter Try.func38, Try.ntmps38
    go_upto_region 1 with fail
    rw [← HW.out, ← HK.out]
    clear HW HK
    go_wp2
    go_ret2
    exact ⟨rfl, BF.out⟩
  have z2 : decide ((l.length : Int) ≤ x - k) = false := decide_eq_false h2
  obtain ⟨v, hv⟩ : ∃ v, l[(x - k).toNat]? = some v := ⟨_, List.getElem?_eq_getElem (by omega)⟩
  obtain ⟨b, o, e, lb, q0, -⟩ := int_at HL.out hv
  subst e
  have E := hid (atL_in h1 hv)
  rw [E.out, show vO (some v) = v from rfl, show bO (some v) = true from rfl]
  have i0 : 0 ≤ x - k := by omega
  have i1 : x - k < (l.length : Int) := by omega
  clear E hv h1 h2 hk hx
  go_enter Try.func38, Try.ntmps38
  go_upto_region 1 with fail
  rw [← HW.out, ← HK.out]
  clear HW HK
  go_wp2
  go_ret2
  exact ⟨rfl, BF.out⟩
end Go.Proofs.Ytghhnimimccpoaa.R14
/- The document's lines (poundageref14): Runs. -/
namespace Go.Proofs.Ytghhnimimccpoaa.R14
open Go.RowKit Go.Sort P Mm R6
theorem flat_last (ys : List (Rn Int)) (z : Rn Int) (b : Int) : ((ys ++ [z]).flatMap rnC).set (ys.length * 3 + 1) (.int .i64 b) = (ys ++ [(⟨z.a, b, z.v⟩ : Rn Int)]).flatMap rnC := by
  have hl : (ys.flatMap rnC).length = ys.length * 3 := flat_len (f := rnC) (n := 3) (fun _ => rfl) _
  rw [List.flatMap_append, List.flatMap_append, List.set_append_right _ _ (by omega), hl, show ys.length * 3 + 1 - ys.length * 3 = 1 by omega]
  rfl
theorem flat_z (ys : List (Rn Int)) (z : Rn Int) : ((ys ++ [z]).flatMap rnC)[ys.length * 3 + 1]? = some (.int .i64 z.b) :=
  flat_get (cells := rnC) (n := 3) (fun _ => rfl) (ys ++ [z]) ys.length z 1 _ (by simp) rfl
theorem news_at (w : World) (cs : List Value) (t : TypeId) : ∀ j u, cs[j]? = some u → (w.alloc (.cells cs.toArray t)).cell? ((⟨w.heap.size, 0, none⟩ : Addr).add j) = some u := fun j u h => by
  rw [Mm.add_plain, Nat.zero_add]
  exact (Box.new w cs t).cell j u h
theorem info_run : (Try.prog.info? 71).map (fun i => (i.zero, i.size, i.bytes)) = some (some (.agg #[.int .i64 0, .int .i64 0, .int .i64 0]), 3, 24) := by kernel_rfl
set_option maxHeartbeats 1600000 in
set_option maxRecDepth 100000 in
/-- The runs of a line of the document's. -/
theorem runs_any (k : Int) (l : List Int) (ao : Option Addr) (cap : Nat) (w : World) (hl : Row tInt w ao l.length cap l) (hk : Lim k) (hn : l.length ≤ 100000) :
    Calls Try.prog 16 #[.agg #[.int .i64 k, .slice ao l.length cap]] w fun e w' => (∃ ao' cap', e = .returned (.slice ao' (runsF k l).length cap') ∧ Row tRn w' ao' (runsF k l).length cap' (runsF k l)) ∧ Below w.heap.size w w' := by
  obtain ⟨w1, hw1⟩ : ∃ W, W = w.alloc (.cells ([.int .i64 k, .slice ao l.length cap] : List Value).toArray 30) := ⟨_, rfl⟩
  obtain ⟨k1, hk1⟩ : ∃ k, k = w.heap.size := ⟨_, rfl⟩
  have b1 : Below w.heap.size w w1 := by rw [hw1]; exact bel_alloc _ _
  have X1 : Box w1 k1 [.int .i64 k, .slice ao l.length cap] := by rw [hw1, hk1]; exact Box.new w _ _
  have X := hid (fun (W : World) (b : Below w1.heap.size w1 W) => (⟨X1.on b, bel_on b1 b⟩ : Box W k1 [.int .i64 k, .slice ao l.length cap] ∧ Below w.heap.size w W))
  have HL := hid (fun (W : World) (b : Below w1.heap.size w1 W) => hl.on (bel_on b1 b))
  have OK := hid (runs_ok (k := k) (l := l) hk (by omega) (row_vals hl))
  have c0 := X1.cell 0 _ rfl
  have c1 := X1.cell 1 _ rfl
  have l1 := X1.lt
  have HW := hid hw1
  have HK := hid hk1
  have B0 := hid (Below.refl w1.heap.size w1)
  have lm := hl.hmax
  have lc := hl.hcap
  have KL := hid hk
  obtain ⟨i0, hi0, hz0, hz1, hz2⟩ := info_parts info_run
  clear hw1 hk1 X1 b1 hl hk
  go_enter Try.func16, Try.ntmps16
  go_upto_region 1 with fail
  rw [← HW.out, ← HK.out]
  clear HW HK
  go_wp2
  clear c0 c1 l1
  go_loopw [3, 9] (fun v i wr => ∃ (V : Value) (i' : Int) (N : Nat), v = V ∧ i = .int .i64 i' ∧ 0 ≤ i' ∧ i' ≤ l.length ∧ Hid (N = (runsF k (l.take i'.toNat)).length) ∧ N ≤ 100000 ∧ Hid (wr.ownsRow w1.heap.size 71 3 V N ((runsF k (l.take i'.toNat)).flatMap rnC)) ∧ Hid (Below w1.heap.size w1 wr)) (fun _ i _ => ((l.length : Int) - intOf i).toNat)
  case atStart => exact ⟨_, 0, 0, rfl, rfl, Int.le_refl _, by omega, hid rfl, by omega, hid (World.ownsRow_nil _ _ _ _), B0⟩
  case round =>
    obtain ⟨V, i', N, rfl, rfl, h0, hi, hN, hN2, hO, hb⟩ := hrel
    clear B0
    have c0 := (X.out wr hb.out).1.cell 0 _ rfl
    have c1 := (X.out wr hb.out).1.cell 1 _ rfl
    have l1 := (X.out wr hb.out).1.lt
    by_cases hlt : i' < (l.length : Int)
    · obtain ⟨v, hv⟩ : ∃ v, l[i'.toNat]? = some v := ⟨_, List.getElem?_eq_getElem (by omega)⟩
      obtain ⟨b, o, e, lb, q0, -⟩ := int_at (HL.out wr hb.out) hv
      subst e
      have RT := runs_take k l hv
      have en : (i' + 1).toNat = i'.toNat + 1 := by omega
      have ei : ((i'.toNat : Nat) : Int) = i' := by omega
      rw [ei, ← en] at RT
      have wk : IntKind.i64.wrap (k + i') = k + i' := wrap_l (by have := KL.out; unfold Lim at this; unfold I64; omega)
      have hsz := hb.out.size
      have oo := hO.out
      have LE := hid (show (runsF k (l.take (i' + 1).toNat)).length ≤ 100000 by
        have := runs_len (l.take (i' + 1).toNat) k
        rw [List.length_take] at this
        omega)
      by_cases hz : 0 < i'
      · obtain ⟨p, hp⟩ : ∃ p, l[i'.toNat - 1]? = some p := ⟨_, List.getElem?_eq_getElem (by omega)⟩
        obtain ⟨b2, o2, e2, -, q1, -⟩ := int_at (HL.out wr hb.out) hp
        simp only [Option.some.injEq, Addr.mk.injEq, and_true] at e2
        obtain ⟨rfl, rfl⟩ := e2
        obtain ⟨ys, a, hys⟩ := runs_last k l hp
        rw [show i'.toNat - 1 + 1 = i'.toNat by omega] at hys
        have z0 : decide (0 < i') = true := decide_eq_true hz
        have j0 : 0 ≤ i' - 1 := by omega
        have j1 : i' - 1 < (l.length : Int) := by omega
        have j2 : 1 ≤ i' := by omega
        have q2 : wr.cell? ⟨b, o + (i' - 1).toNat, none⟩ = some (.int .i64 p) := by rw [show (i' - 1).toNat = i'.toNat - 1 by omega]; exact q1
        by_cases hpv : p = v
        · have z1 : (p == v) = true := by rw [hpv]; simp
          have RT2 : runsF k (l.take (i' + 1).toNat) = ys ++ [⟨a, k + i', p⟩] := by rw [RT, hys, add_same hpv]
          obtain ⟨m, hm⟩ : ∃ m, m = ys.length := ⟨_, rfl⟩
          have EN : N = m + 1 := by rw [hN.out, hys, hm]; simp
          subst EN
          rw [hys] at oo
          obtain ⟨g, cp, e, lg0, lg⟩ := oo.form (by omega)
          subst e
          have m0 : wr.cell? ⟨g, m * 3 + 1, none⟩ = some (.int .i64 (k + (((i'.toNat - 1 : Nat)) : Int))) := by
            rw [oo.cellAt _ (by omega), hm, flat_z]
          have m1 : wr.frozen? ⟨g, m * 3 + 1, none⟩ = false := oo.frozenAt _
          have O2 := hid (show (wr.setCell ⟨g, m * 3 + 1, none⟩ (.int .i64 (k + i'))).ownsRow w1.heap.size 71 3 (.slice (some ⟨g, 0, none⟩) (m + 1) cp) (m + 1) ((runsF k (l.take (i' + 1).toNat)).flatMap rnC) by
            have h := (oo.stored (m * 3 + 1) (.int .i64 (k + i'))).1
            rw [hm, flat_last] at h
            rw [RT2, hm]
            exact h)
          have B2 := hid (hb.out.setCell (p := ⟨g, m * 3 + 1, none⟩) lg0 (.int .i64 (k + i')))
          have N2 := hid (show m + 1 = (runsF k (l.take (i' + 1).toNat)).length by rw [RT2, hm]; simp)
          have mI : (m : Int) < (m : Int) + 1 := by omega
          have mI0 : (0 : Int) ≤ (m : Int) := by omega
          clear hv hp RT RT2 hys hpv hm oo hN hO hb
          go_wp2
          go_roundw
          case rel => exact ⟨_, i' + 1, m + 1, rfl, by simp, by omega, by omega, N2, hN2, O2, B2⟩
          case measure => simp [intOf]; omega
        · have z1 : (p == v) = false := by rw [beq_eq_false_iff_ne]; exact hpv
          have RT2 : runsF k (l.take (i' + 1).toNat) = runsF k (l.take i'.toNat) ++ [⟨k + i', k + i', v⟩] := by rw [RT, hys, add_new hpv]
          clear RT hys
          have RT3 := hid RT2
          have HN := hid hN.out
          clear RT2
          clear hv hp hpv hN hO
          go_wp2_with (at_builtin; refine wpList_append_own _ rfl _ _ 35 rfl w1.heap.size 71 i0 (.agg #[.int .i64 0, .int .i64 0, .int .i64 0]) 3 24 Try.underlying35 hi0 hz0 hz1 hz2 rfl (by decide) _ _ _ rfl (oo.alloc _) ⟨wr.heap.size, 0, none⟩ 1 1 (rnC ⟨k + i', k + i', v⟩) rfl rfl (news_at wr (rnC ⟨k + i', k + i', v⟩) _) (by simp [rnC, Value.oneCell']) (by unfold maxLen; omega) (by omega) (by simp; omega) ?_)
          intro v5 w5 hown hgrow _
          have B5 := hid ((hb.out.alloc hsz _).grown hgrow (hb.out.alloc hsz _).size (fun j hj => (oo.lt j hj).1))
          have O5 := hid (show w5.ownsRow w1.heap.size 71 3 v5 (N + 1) ((runsF k (l.take (i' + 1).toNat)).flatMap rnC) by
            rw [RT3.out, List.flatMap_append]
            simpa using hown)
          have N5 := hid (show N + 1 = (runsF k (l.take (i' + 1).toNat)).length by
            rw [RT3.out, List.length_append, ← HN.out]
            rfl)
          clear hown hgrow oo
          go_wp2
          go_roundw
          case rel => exact ⟨_, i' + 1, N + 1, rfl, by simp, by omega, by omega, N5, by have := N5.out; have := LE.out; omega, O5, B5⟩
          case measure => simp [intOf]; omega
      · have z0 : decide (0 < i') = false := decide_eq_false hz
        have RT2 : runsF k (l.take (i' + 1).toNat) = runsF k (l.take i'.toNat) ++ [⟨k + i', k + i', v⟩] := by
          rw [RT, show i'.toNat = 0 by omega]
          rfl
        have RT3 := hid RT2
        have HN := hid hN.out
        clear RT RT2 hv hN hO
        go_wp2_with (at_builtin; refine wpList_append_own _ rfl _ _ 35 rfl w1.heap.size 71 i0 (.agg #[.int .i64 0, .int .i64 0, .int .i64 0]) 3 24 Try.underlying35 hi0 hz0 hz1 hz2 rfl (by decide) _ _ _ rfl (oo.alloc _) ⟨wr.heap.size, 0, none⟩ 1 1 (rnC ⟨k + i', k + i', v⟩) rfl rfl (news_at wr (rnC ⟨k + i', k + i', v⟩) _) (by simp [rnC, Value.oneCell']) (by unfold maxLen; omega) (by omega) (by simp; omega) ?_)
        intro v5 w5 hown hgrow _
        have B5 := hid ((hb.out.alloc hsz _).grown hgrow (hb.out.alloc hsz _).size (fun j hj => (oo.lt j hj).1))
        have O5 := hid (show w5.ownsRow w1.heap.size 71 3 v5 (N + 1) ((runsF k (l.take (i' + 1).toNat)).flatMap rnC) by
          rw [RT3.out, List.flatMap_append]
          simpa using hown)
        have N5 := hid (show N + 1 = (runsF k (l.take (i' + 1).toNat)).length by
          rw [RT3.out, List.length_append, ← HN.out]
          rfl)
        clear hown hgrow oo
        go_wp2
        go_roundw
        case rel => exact ⟨_, i' + 1, N + 1, rfl, by simp, by omega, by omega, N5, by have := N5.out; have := LE.out; omega, O5, B5⟩
        case measure => simp [intOf]; omega
    · have BF := hid (X.out wr hb.out).2
      have EA : l.take i'.toNat = l := List.take_of_length_le (by omega)
      have oo := hO.out
      rw [EA] at oo hN
      have EN := hN.out
      subst EN
      obtain ⟨ao2, cp, e, R2⟩ := row_own (n := 3) (cells := rnC) (ok := RnOk) (hn := fun _ => rfl) oo OK.out
      subst e
      have R2 := hid R2
      clear EA oo hN hO
      go_wp2
      go_ret
      exact ⟨⟨ao2, cp, rfl, R2.out⟩, BF.out⟩
end Go.Proofs.Ytghhnimimccpoaa.R14
/- Many cells at once: structs loaded and stored whole, rows that are written in the middle, a struct result in a cell. No function of the program is named here. -/
namespace Go.Proofs.Ytghhnimimccpoaa.Md
open Go.RowKit Mm
/-- A struct result in a cell. -/
theorem results_mid {P : Program} {fn : Func} {p : Tmp} {ty : TypeId} (h : fn.results = #[.cell p ty]) (tmps : Array Value) (w : World) (b : Nat) (cs : List Value) (d : TypeDesc)
    (hp : tmps.getD p undef = .pointer (some ⟨b, 0, none⟩)) (hc : w.rangeAt b 0 cs) (hu : P.underlying ty = some d) (hd : d.isRow = true) (hi : (P.info? ty).map (·.size) = some cs.length) :
    (results fn tmps).run P w = .ok (.agg cs.toArray) w := by
  have hp' : tmps[p]?.getD undef = .pointer (some ⟨b, 0, none⟩) := by simpa using hp
  simp [results, h, hp', asAddr, run_loadVar_mid w b 0 ty cs d hc hu hd hi]
end Go.Proofs.Ytghhnimimccpoaa.Md
/- The document's lines (poundageref14): Fill. -/
namespace Go.Proofs.Ytghhnimimccpoaa.R14
open Go.RowKit Go.Sort P Mm R6
def inL (a b x : Int) : Bool := decide (a ≤ x) && decide (x ≤ b)
def fillL (k : Int) (l : List Int) (a b v : Int) : List Int := l.mapIdx fun i x => if inL a b (k + i) = true then v else x
theorem fill_take {k a b v : Int} {l : List Int} {i : Nat} {x : Int} (h : l[i]? = some x) : fillL k (l.take (i + 1)) a b v = fillL k (l.take i) a b v ++ [if inL a b (k + i) = true then v else x] := by
  have hi := (List.getElem?_eq_some_iff.1 h).1
  have e : (l.take i).length = i := by rw [List.length_take]; omega
  unfold fillL
  rw [List.take_add_one, h, show (some x).toList = [x] from rfl, List.mapIdx_concat, e]
theorem fill_len (k : Int) (l : List Int) (a b v : Int) : (fillL k l a b v).length = l.length := List.length_mapIdx
theorem fill_i {k a b v : Int} {l : List Int} (h : ∀ x ∈ l, I64 x) (hv : I64 v) : ∀ x ∈ fillL k l a b v, I64 x := fun x hx => by
  unfold fillL at hx
  obtain ⟨i, hi, e⟩ := List.mem_mapIdx.1 hx
  rw [← e]
  split
  · exact hv
  · exact h _ (List.getElem_mem hi)
def intC (n : Int) : List Value := [.int .i64 n]
theorem info_int : (Try.prog.info? 3).map (fun i => (i.zero, i.size, i.bytes)) = some (some (.int .i64 0), 1, 8) := by kernel_rfl
theorem other_own {w : World} {base : Nat} {e : TypeId} {size : Nat} {v : Value} {n : Nat} {xs : List Value} (h : w.ownsRow base e size v n xs) {k i : Nat} (hk : k < base) (u : Value) : (w.setCell ⟨k, i, none⟩ u).ownsRow base e size v n xs :=
  ownsRow_setCell_below h (a := ⟨k, i, none⟩) hk u
theorem own_ne {w : World} {base : Nat} {e : TypeId} {size : Nat} {v : Value} {n : Nat} {xs : List Value} (h : w.ownsRow base e size v n xs) {k : Nat} (hk : k < base) : some k ≠ v.ownBlock := fun e2 => by
  have := (h.lt k e2.symm).1
  omega
set_option maxHeartbeats 1600000 in
set_option maxRecDepth 100000 in
/-- A line of the document's with one value from a number to another one. -/
theorem fill_any (k a b v : Int) (l : List Int) (ao : Option Addr) (cap : Nat) (w : World) (hl : Row tInt w ao l.length cap l) (hk : Lim k) (hn : l.length ≤ 100000) (hv : I64 v) :
    Calls Try.prog 18 #[.agg #[.int .i64 k, .slice ao l.length cap], .int .i64 a, .int .i64 b, .int .i64 v] w fun e w' => (∃ ao' cap', e = .returned (.agg #[.int .i64 k, .slice ao' l.length cap']) ∧ Row tInt w' ao' l.length cap' (fillL k l a b v)) ∧ Below w.heap.size w w' := by
  obtain ⟨w1, hw1⟩ : ∃ W, W = w.alloc (.cells ([.int .i64 k, .slice ao l.length cap] : List Value).toArray 30) := ⟨_, rfl⟩
  obtain ⟨k1, hk1⟩ : ∃ k, k = w.heap.size := ⟨_, rfl⟩
  have b1 : Below w.heap.size w w1 := by rw [hw1]; exact bel_alloc _ _
  have X1 : Box w1 k1 [.int .i64 k, .slice ao l.length cap] := by rw [hw1, hk1]; exact Box.new w _ _
  obtain ⟨w2, hw2⟩ : ∃ W, W = w1.alloc (.cells ([.int .i64 0, .slice none 0 0] : List Value).toArray 30) := ⟨_, rfl⟩
  obtain ⟨k2, hk2⟩ : ∃ k, k = w1.heap.size := ⟨_, rfl⟩
  have b2 : Below w1.heap.size w1 w2 := by rw [hw2]; exact bel_alloc _ _
  have X2 : Box w2 k2 [.int .i64 0, .slice none 0 0] := by rw [hw2, hk2]; exact Box.new w1 _ _
  obtain ⟨w3, hw3⟩ : ∃ W, W = w2.alloc (.cells ([.int .i64 k, .slice none 0 0] : List Value).toArray 30) := ⟨_, rfl⟩
  obtain ⟨k3, hk3⟩ : ∃ k, k = w2.heap.size := ⟨_, rfl⟩
  have b3 : Below w2.heap.size w2 w3 := by rw [hw3]; exact bel_alloc _ _
  have X3 : Box w3 k3 [.int .i64 k, .slice none 0 0] := by rw [hw3, hk3]; exact Box.new w2 _ _
  obtain ⟨n0, hn0⟩ : ∃ n, n = w3.heap.size := ⟨_, rfl⟩
  have e1 : w1.heap.size = w.heap.size + 1 := by rw [hw1]; simp
  have e2 : w2.heap.size = w.heap.size + 2 := by rw [hw2]; simp [e1]
  have e3 : w3.heap.size = w.heap.size + 3 := by rw [hw3]; simp [e2]
  have HW1 := hid hw1
  have HW2 := hid hw2
  have HW3 := hid hw3
  have HK1 := hid hk1
  have HK2 := hid (show k2 = k1 + 1 by omega)
  have HK3 := hid hk3
  have HB := hid (show k1 < k2 ∧ k2 < k3 ∧ k3 < n0 ∧ w.heap.size ≤ k1 ∧ n0 = w3.heap.size by omega)
  have X0 := hid (show Box w3 k1 [.int .i64 k, .slice ao l.length cap] ∧ Box w3 k2 [.int .i64 0, .slice none 0 0] ∧ Box w3 k3 [.int .i64 k, .slice none 0 0] from ⟨(X1.on b2).on b3, X2.on b3, X3⟩)
  have XW2 := hid (X1.on b2)
  have B0 := hid (show Below w.heap.size w w3 from bel_on b1 (bel_on b2 b3))
  have HL := hid hl
  have HV := hid hv
  have c0 := X1.cell 0 _ rfl
  have l1 := X1.lt
  have lm := hl.hmax
  have lc := hl.hcap
  have KL := hid hk
  obtain ⟨i0, hi0, hz0, hz1, hz2⟩ := info_parts info_int
  clear hw1 hk1 X1 b1 hw2 hk2 X2 b2 hw3 hk3 X3 b3 hl hk hv e1 e2 e3 hn0
  go_enter Try.func18, Try.ntmps18
  go_upto_region 1 with fail
  rw [← HW1.out, ← HK1.out, ← HW2.out, ← HK2.out]
  have d0 := XW2.out.cell 0 _ rfl
  have dl := XW2.out.lt
  go_upto_region 2 with fail
  rw [← HW3.out, ← HK3.out]
  clear HW1 HW2 HW3 HK1 HK2 HK3 c0 l1 d0 dl
  have c1 := X0.out.1.cell 1 _ rfl
  have l1 := X0.out.1.lt
  go_wp2
  clear c1 l1
  go_loopw [18] (fun i wr => ∃ i' : Nat, i = .int .i64 (i' : Int) ∧ i' ≤ l.length ∧ Hid (∃ V, Box wr k3 [.int .i64 k, V] ∧ wr.ownsRow n0 3 1 V i' ((fillL k (l.take i') a b v).flatMap intC)) ∧ Hid (Box wr k1 [.int .i64 k, .slice ao l.length cap] ∧ Box wr k2 [.int .i64 0, .slice none 0 0]) ∧ Hid (Below w.heap.size w wr) ∧ Hid (n0 ≤ wr.heap.size)) (fun i _ => l.length - (intOf i).toNat)
  case atStart => exact ⟨0, rfl, Nat.zero_le _, hid ⟨_, X0.out.2.2, World.ownsRow_nil _ _ _ _⟩, hid ⟨X0.out.1, X0.out.2.1⟩, B0, hid (by have := HB.out; omega)⟩
  case round =>
    obtain ⟨i', rfl, hi, hO, hX, hb, hs⟩ := hrel
    clear X0 B0
    by_cases hlt : i' < l.length
    · obtain ⟨x, hx⟩ : ∃ x, l[i']? = some x := ⟨_, List.getElem?_eq_getElem hlt⟩
      obtain ⟨bb, oo, eb, -, q0, -⟩ := int_at (HL.out.on hb.out) hx
      subst eb
      have c0 := hX.out.1.cell 0 _ rfl
      have l1 := hX.out.1.lt
      obtain ⟨V, BV, oV⟩ := hO.out
      have m1 := BV.cell 1 _ rfl
      have l3 := BV.lt
      have wk : IntKind.i64.wrap (k + (i' : Int)) = k + (i' : Int) := wrap_l (by have := KL.out; unfold Lim at this; unfold I64; omega)
      obtain ⟨q1, z1⟩ : ∃ q, decide (a ≤ k + (i' : Int)) = q := ⟨_, rfl⟩
      obtain ⟨q2, z2⟩ : ∃ q, decide (k + (i' : Int) ≤ b) = q := ⟨_, rfl⟩
      have EI := hid (show inL a b (k + i') = (q1 && q2) by unfold inL; rw [z1, z2])
      obtain ⟨Y, hY⟩ : ∃ Y, Y = if inL a b (k + i') = true then v else x := ⟨_, rfl⟩
      have FT := hid (show fillL k (l.take (i' + 1)) a b v = fillL k (l.take i') a b v ++ [Y] by rw [fill_take hx, hY])
      have HY := hid hY
      have BV2 := hid BV
      have oV2 := hid oV
      clear hY hx BV oV hO
      cases q1 <;> cases q2
      · have FT2 := hid (show fillL k (l.take (i' + 1)) a b v = fillL k (l.take i') a b v ++ [x] by rw [FT.out, HY.out, EI.out]; rfl)
        clear HY FT EI
        go_wp2_with (at_builtin; refine wpList_append_own _ rfl _ _ 22 rfl n0 3 i0 (.int .i64 0) 1 8 Try.underlying22 hi0 hz0 hz1 hz2 rfl (by decide) _ _ _ rfl (oV2.out.alloc _) ⟨wr.heap.size, 0, none⟩ 1 1 (intC x) rfl rfl (news_at wr (intC x) _) (by simp [intC, Value.oneCell']) (by unfold maxLen; omega) (by omega) (by have := hs.out; simp; omega) ?_)
        intro v5 w5 hown hgrow _
        obtain ⟨g5, cp5, e5, -, -⟩ := hown.form (by omega)
        obtain ⟨v5, hv5⟩ : ∃ v, v = Value.slice (some ⟨g5, 0, none⟩) (i' + 1) cp5 := ⟨_, rfl⟩
        rw [e5] at hown ⊢
        rw [← hv5] at hown
        have Z3 := ((BV2.out.on (bel_alloc wr _)).grown hgrow (own_ne oV2.out (by have := HB.out; omega)))
        have Z1 := hid (((hX.out.1.on (bel_alloc wr _)).grown hgrow (own_ne oV2.out (by have := HB.out; omega))))
        have Z2 := hid (((hX.out.2.on (bel_alloc wr _)).grown hgrow (own_ne oV2.out (by have := HB.out; omega))))
        have m5 := Z3.cell 1 _ rfl
        have f5 := Z3.free 1
        have l5 := Z3.lt
        have HZ3 := hid Z3
        have B5 := hid ((hb.out.alloc (by have := HB.out; have := hs.out; omega) _).grown hgrow (by have := HB.out; have := hs.out; simp; omega) (fun j hj => by have := (oV2.out.lt j hj).1; have := HB.out; omega))
        have O5 := hid hown
        have S5 := hid (show n0 ≤ w5.heap.size by have h1 := hgrow.size; have := hs.out; simp at h1; omega)
        clear hown hgrow Z3
        have NX := hid (show ∃ V, Box (w5.setCell ⟨k3, 1, none⟩ v5) k3 [.int .i64 k, V] ∧ (w5.setCell ⟨k3, 1, none⟩ v5).ownsRow n0 3 1 V (i' + 1) ((fillL k (l.take (i' + 1)) a b v).flatMap intC) from ⟨v5, HZ3.out.set 1 v5, other_own (by
          rw [FT2.out, List.flatMap_append]
          exact O5.out) HB.out.2.2.1 v5⟩)
        have NB := hid (show Box (w5.setCell ⟨k3, 1, none⟩ v5) k1 [.int .i64 k, .slice (some ⟨bb, oo, none⟩) l.length cap] ∧ Box (w5.setCell ⟨k3, 1, none⟩ v5) k2 [.int .i64 0, .slice none 0 0] from ⟨Z1.out.other (p := ⟨k3, 1, none⟩) (by have := HB.out; show k1 ≠ k3; omega) _, Z2.out.other (p := ⟨k3, 1, none⟩) (by have := HB.out; show k2 ≠ k3; omega) _⟩)
        have NW := hid (B5.out.setCell (p := ⟨k3, 1, none⟩) (by have := HB.out; show w.heap.size ≤ k3; omega) v5)
        have NS := hid (show n0 ≤ (w5.setCell ⟨k3, 1, none⟩ v5).heap.size by have := S5.out; simpa using this)
        subst hv5
        clear O5 Z1 Z2 HZ3 B5 S5 hX hb hs BV2 oV2
        go_wp2
        go_roundw
        case rel => exact ⟨i' + 1, by simp, by omega, NX, NB, NW, NS⟩
        case measure => simp [intOf]; omega
      · have FT2 := hid (show fillL k (l.take (i' + 1)) a b v = fillL k (l.take i') a b v ++ [x] by rw [FT.out, HY.out, EI.out]; rfl)
        clear HY FT EI
        go_wp2_with (at_builtin; refine wpList_append_own _ rfl _ _ 22 rfl n0 3 i0 (.int .i64 0) 1 8 Try.underlying22 hi0 hz0 hz1 hz2 rfl (by decide) _ _ _ rfl (oV2.out.alloc _) ⟨wr.heap.size, 0, none⟩ 1 1 (intC x) rfl rfl (news_at wr (intC x) _) (by simp [intC, Value.oneCell']) (by unfold maxLen; omega) (by omega) (by have := hs.out; simp; omega) ?_)
        intro v5 w5 hown hgrow _
        obtain ⟨g5, cp5, e5, -, -⟩ := hown.form (by omega)
        obtain ⟨v5, hv5⟩ : ∃ v, v = Value.slice (some ⟨g5, 0, none⟩) (i' + 1) cp5 := ⟨_, rfl⟩
        rw [e5] at hown ⊢
        rw [← hv5] at hown
        have Z3 := ((BV2.out.on (bel_alloc wr _)).grown hgrow (own_ne oV2.out (by have := HB.out; omega)))
        have Z1 := hid (((hX.out.1.on (bel_alloc wr _)).grown hgrow (own_ne oV2.out (by have := HB.out; omega))))
        have Z2 := hid (((hX.out.2.on (bel_alloc wr _)).grown hgrow (own_ne oV2.out (by have := HB.out; omega))))
        have m5 := Z3.cell 1 _ rfl
        have f5 := Z3.free 1
        have l5 := Z3.lt
        have HZ3 := hid Z3
        have B5 := hid ((hb.out.alloc (by have := HB.out; have := hs.out; omega) _).grown hgrow (by have := HB.out; have := hs.out; simp; omega) (fun j hj => by have := (oV2.out.lt j hj).1; have := HB.out; omega))
        have O5 := hid hown
        have S5 := hid (show n0 ≤ w5.heap.size by have h1 := hgrow.size; have := hs.out; simp at h1; omega)
        clear hown hgrow Z3
        have NX := hid (show ∃ V, Box (w5.setCell ⟨k3, 1, none⟩ v5) k3 [.int .i64 k, V] ∧ (w5.setCell ⟨k3, 1, none⟩ v5).ownsRow n0 3 1 V (i' + 1) ((fillL k (l.take (i' + 1)) a b v).flatMap intC) from ⟨v5, HZ3.out.set 1 v5, other_own (by
          rw [FT2.out, List.flatMap_append]
          exact O5.out) HB.out.2.2.1 v5⟩)
        have NB := hid (show Box (w5.setCell ⟨k3, 1, none⟩ v5) k1 [.int .i64 k, .slice (some ⟨bb, oo, none⟩) l.length cap] ∧ Box (w5.setCell ⟨k3, 1, none⟩ v5) k2 [.int .i64 0, .slice none 0 0] from ⟨Z1.out.other (p := ⟨k3, 1, none⟩) (by have := HB.out; show k1 ≠ k3; omega) _, Z2.out.other (p := ⟨k3, 1, none⟩) (by have := HB.out; show k2 ≠ k3; omega) _⟩)
        have NW := hid (B5.out.setCell (p := ⟨k3, 1, none⟩) (by have := HB.out; show w.heap.size ≤ k3; omega) v5)
        have NS := hid (show n0 ≤ (w5.setCell ⟨k3, 1, none⟩ v5).heap.size by have := S5.out; simpa using this)
        subst hv5
        clear O5 Z1 Z2 HZ3 B5 S5 hX hb hs BV2 oV2
        go_wp2
        go_roundw
        case rel => exact ⟨i' + 1, by simp, by omega, NX, NB, NW, NS⟩
        case measure => simp [intOf]; omega
      · have FT2 := hid (show fillL k (l.take (i' + 1)) a b v = fillL k (l.take i') a b v ++ [x] by rw [FT.out, HY.out, EI.out]; rfl)
        clear HY FT EI
        go_wp2_with (at_builtin; refine wpList_append_own _ rfl _ _ 22 rfl n0 3 i0 (.int .i64 0) 1 8 Try.underlying22 hi0 hz0 hz1 hz2 rfl (by decide) _ _ _ rfl (oV2.out.alloc _) ⟨wr.heap.size, 0, none⟩ 1 1 (intC x) rfl rfl (news_at wr (intC x) _) (by simp [intC, Value.oneCell']) (by unfold maxLen; omega) (by omega) (by have := hs.out; simp; omega) ?_)
        intro v5 w5 hown hgrow _
        obtain ⟨g5, cp5, e5, -, -⟩ := hown.form (by omega)
        obtain ⟨v5, hv5⟩ : ∃ v, v = Value.slice (some ⟨g5, 0, none⟩) (i' + 1) cp5 := ⟨_, rfl⟩
        rw [e5] at hown ⊢
        rw [← hv5] at hown
        have Z3 := ((BV2.out.on (bel_alloc wr _)).grown hgrow (own_ne oV2.out (by have := HB.out; omega)))
        have Z1 := hid (((hX.out.1.on (bel_alloc wr _)).grown hgrow (own_ne oV2.out (by have := HB.out; omega))))
        have Z2 := hid (((hX.out.2.on (bel_alloc wr _)).grown hgrow (own_ne oV2.out (by have := HB.out; omega))))
        have m5 := Z3.cell 1 _ rfl
        have f5 := Z3.free 1
        have l5 := Z3.lt
        have HZ3 := hid Z3
        have B5 := hid ((hb.out.alloc (by have := HB.out; have := hs.out; omega) _).grown hgrow (by have := HB.out; have := hs.out; simp; omega) (fun j hj => by have := (oV2.out.lt j hj).1; have := HB.out; omega))
        have O5 := hid hown
        have S5 := hid (show n0 ≤ w5.heap.size by have h1 := hgrow.size; have := hs.out; simp at h1; omega)
        clear hown hgrow Z3
        have NX := hid (show ∃ V, Box (w5.setCell ⟨k3, 1, none⟩ v5) k3 [.int .i64 k, V] ∧ (w5.setCell ⟨k3, 1, none⟩ v5).ownsRow n0 3 1 V (i' + 1) ((fillL k (l.take (i' + 1)) a b v).flatMap intC) from ⟨v5, HZ3.out.set 1 v5, other_own (by
          rw [FT2.out, List.flatMap_append]
          exact O5.out) HB.out.2.2.1 v5⟩)
        have NB := hid (show Box (w5.setCell ⟨k3, 1, none⟩ v5) k1 [.int .i64 k, .slice (some ⟨bb, oo, none⟩) l.length cap] ∧ Box (w5.setCell ⟨k3, 1, none⟩ v5) k2 [.int .i64 0, .slice none 0 0] from ⟨Z1.out.other (p := ⟨k3, 1, none⟩) (by have := HB.out; show k1 ≠ k3; omega) _, Z2.out.other (p := ⟨k3, 1, none⟩) (by have := HB.out; show k2 ≠ k3; omega) _⟩)
        have NW := hid (B5.out.setCell (p := ⟨k3, 1, none⟩) (by have := HB.out; show w.heap.size ≤ k3; omega) v5)
        have NS := hid (show n0 ≤ (w5.setCell ⟨k3, 1, none⟩ v5).heap.size by have := S5.out; simpa using this)
        subst hv5
        clear O5 Z1 Z2 HZ3 B5 S5 hX hb hs BV2 oV2
        go_wp2
        go_roundw
        case rel => exact ⟨i' + 1, by simp, by omega, NX, NB, NW, NS⟩
        case measure => simp [intOf]; omega
      · have FT2 := hid (show fillL k (l.take (i' + 1)) a b v = fillL k (l.take i') a b v ++ [v] by rw [FT.out, HY.out, EI.out]; rfl)
        clear HY FT EI
        go_wp2_with (at_builtin; refine wpList_append_own _ rfl _ _ 22 rfl n0 3 i0 (.int .i64 0) 1 8 Try.underlying22 hi0 hz0 hz1 hz2 rfl (by decide) _ _ _ rfl (oV2.out.alloc _) ⟨wr.heap.size, 0, none⟩ 1 1 (intC v) rfl rfl (news_at wr (intC v) _) (by simp [intC, Value.oneCell']) (by unfold maxLen; omega) (by omega) (by have := hs.out; simp; omega) ?_)
        intro v5 w5 hown hgrow _
        obtain ⟨g5, cp5, e5, -, -⟩ := hown.form (by omega)
        obtain ⟨v5, hv5⟩ : ∃ v, v = Value.slice (some ⟨g5, 0, none⟩) (i' + 1) cp5 := ⟨_, rfl⟩
        rw [e5] at hown ⊢
        rw [← hv5] at hown
        have Z3 := ((BV2.out.on (bel_alloc wr _)).grown hgrow (own_ne oV2.out (by have := HB.out; omega)))
        have Z1 := hid (((hX.out.1.on (bel_alloc wr _)).grown hgrow (own_ne oV2.out (by have := HB.out; omega))))
        have Z2 := hid (((hX.out.2.on (bel_alloc wr _)).grown hgrow (own_ne oV2.out (by have := HB.out; omega))))
        have m5 := Z3.cell 1 _ rfl
        have f5 := Z3.free 1
        have l5 := Z3.lt
        have HZ3 := hid Z3
        have B5 := hid ((hb.out.alloc (by have := HB.out; have := hs.out; omega) _).grown hgrow (by have := HB.out; have := hs.out; simp; omega) (fun j hj => by have := (oV2.out.lt j hj).1; have := HB.out; omega))
        have O5 := hid hown
        have S5 := hid (show n0 ≤ w5.heap.size by have h1 := hgrow.size; have := hs.out; simp at h1; omega)
        clear hown hgrow Z3
        have NX := hid (show ∃ V, Box (w5.setCell ⟨k3, 1, none⟩ v5) k3 [.int .i64 k, V] ∧ (w5.setCell ⟨k3, 1, none⟩ v5).ownsRow n0 3 1 V (i' + 1) ((fillL k (l.take (i' + 1)) a b v).flatMap intC) from ⟨v5, HZ3.out.set 1 v5, other_own (by
          rw [FT2.out, List.flatMap_append]
          exact O5.out) HB.out.2.2.1 v5⟩)
        have NB := hid (show Box (w5.setCell ⟨k3, 1, none⟩ v5) k1 [.int .i64 k, .slice (some ⟨bb, oo, none⟩) l.length cap] ∧ Box (w5.setCell ⟨k3, 1, none⟩ v5) k2 [.int .i64 0, .slice none 0 0] from ⟨Z1.out.other (p := ⟨k3, 1, none⟩) (by have := HB.out; show k1 ≠ k3; omega) _, Z2.out.other (p := ⟨k3, 1, none⟩) (by have := HB.out; show k2 ≠ k3; omega) _⟩)
        have NW := hid (B5.out.setCell (p := ⟨k3, 1, none⟩) (by have := HB.out; show w.heap.size ≤ k3; omega) v5)
        have NS := hid (show n0 ≤ (w5.setCell ⟨k3, 1, none⟩ v5).heap.size by have := S5.out; simpa using this)
        subst hv5
        clear O5 Z1 Z2 HZ3 B5 S5 hX hb hs BV2 oV2
        go_wp2
        go_roundw
        case rel => exact ⟨i' + 1, by simp, by omega, NX, NB, NW, NS⟩
        case measure => simp [intOf]; omega
    · obtain ⟨V, BV, oV⟩ := hO.out
      obtain rfl : i' = l.length := by omega
      rw [List.take_length] at oV
      have e0 : (fillL k l a b v).length = l.length := fill_len k l a b v
      have oW := oV
      rw [← e0] at oW
      obtain ⟨w7, hw7⟩ : ∃ W, W = (wr.setCell ⟨k2, 0, none⟩ (.int .i64 k)).setCell ⟨k2, 1, none⟩ V := ⟨_, rfl⟩
      have o7 : w7.ownsRow n0 3 1 V (fillL k l a b v).length ((fillL k l a b v).flatMap intC) := by
        rw [hw7]
        exact other_own (other_own oW (by have := HB.out; omega) _) (by have := HB.out; omega) _
      obtain ⟨ao2, cp, e, R2⟩ := row_own (n := 1) (cells := intC) (ok := I64) (hn := fun _ => rfl) o7 (fill_i (row_vals HL.out) HV.out)
      rw [e0] at e R2
      subst e
      have R7 := hid R2
      have X7 := hid (show Box w7 k2 [.int .i64 k, .slice ao2 l.length cp] by rw [hw7]; exact (hX.out.2.set 0 _).set 1 _)
      have B7 := hid (show Below w.heap.size w w7 by rw [hw7]; exact (hb.out.setCell (p := ⟨k2, 0, none⟩) (by have := HB.out; show w.heap.size ≤ k2; omega) _).setCell (p := ⟨k2, 1, none⟩) (by have := HB.out; show w.heap.size ≤ k2; omega) _)
      have HW7 := hid hw7
      have m0 := BV.cell 0 _ rfl
      have m1 := BV.cell 1 _ rfl
      have l3 := BV.lt
      have g0 := hX.out.2.cell 0 _ rfl
      have g1 := hX.out.2.cell 1 _ rfl
      have h0 := hX.out.2.free 0
      have h1 := hX.out.2.free 1
      have l2 := hX.out.2.lt
      clear BV oV oW e0 hO hX hb hs R2 o7 hw7
      go_wp2
      rw [← HW7.out]
      refine bodyPost_ret (v := .agg #[.int .i64 k, .slice ao2 l.length cp]) ?_ rfl ⟨⟨ao2, cp, rfl, R7.out⟩, B7.out⟩
      exact Md.results_mid rfl _ _ k2 [.int .i64 k, .slice ao2 l.length cp] _ rfl (fun j u h => by rw [Nat.zero_add]; exact X7.out.cell j u h) Try.underlying30 rfl (by kernel_rfl)
end Go.Proofs.Ytghhnimimccpoaa.R14

/- Plans without places, and their rows of texts, as plain data: two rows are the same just if the plans are, but for places. -/
import Derived.Test.YtcbeocpllnmcjaaJRef6g
import Derived.Laws.Cover1
import Derived.BigQuiet
import Derived.Test.YtcbeocpllnmcjaaJPureS
import Derived.WalkSmall
import Derived.WalkKit
namespace Go.Proofs.Ytcbeocpllnmcjaa.R6
open Go.RowKit Mm P
def nM (m : Meter) : Meter := { m with line := 0, col := 0 }
def nF (f : Fee) : Fee := { f with line := 0, col := 0 }
def nC (c : Charge) : Charge := { c with line := 0, col := 0 }
/-- What a plan in memory is: numbers of 64 bits. -/
structure PlanOk (p : Plan) : Prop where
  days : dayOk p.a ∧ dayOk p.b
  meters : ∀ m ∈ p.meters, I64 m.max
  fees : ∀ f ∈ p.fees, I64 f.amount ∧ winOk f.win
  charges : ∀ c ∈ p.charges, winOk c.win ∧ (I64 c.allowance ∧ I64 c.block ∧ I64 c.kind ∧ I64 c.mode) ∧ (∀ t ∈ c.tiers, I64 t.upto ∧ I64 t.rate) ∧ ∀ a ∈ c.adjusts, I64 a.kind ∧ I64 a.num ∧ I64 a.mode
end Go.Proofs.Ytcbeocpllnmcjaa.R6
/- The laws of layer 6, out of what package tree answers ('Tr'): alive. -/
namespace Go.Proofs.Ytcbeocpllnmcjaa.L06
open Go.RowKit Go.Sort P Mm R6
/-- The place of the first meter of a name. -/
def findM (p : Plan) (name : ByteArray) : Int := match p.meters.findIdx? (fun m => decide (m.name = name)) with
  | some i => i
  | none => -1
/-- Rows of which no one is greater than a text of a script can tell. -/
structure Mid (p : Plan) : Prop where
  meters : p.meters.length ≤ 100000
  fees : p.fees.length ≤ 100000
  charges : p.charges.length ≤ 100000
  parts : ∀ c ∈ p.charges, c.tiers.length ≤ 100000 ∧ c.adjusts.length ≤ 100000
def mB (col : Int) : Meter := ⟨⟨#[98]⟩, ⟨#[]⟩, 0, 0, col⟩
def mA : Meter := ⟨⟨#[97]⟩, ⟨#[]⟩, 0, 0, 0⟩
def d0 : Day := ⟨0, 0, 0⟩
def q0 : Plan := ⟨⟨#[112]⟩, ⟨#[]⟩, d0, d0, [mB 7, mA], [⟨5, ⟨false, d0, d0⟩, 0, 0⟩], [], 3, 0⟩
end Go.Proofs.Ytcbeocpllnmcjaa.L06
/- The laws of layer 6: TreeNames (pure part and walk). -/
namespace Go.Proofs.Ytcbeocpllnmcjaa.L06
open Go.RowKit Go.Sort P Mm R6
/-- How often a text stands among the first k. -/
def cnt (l : List ByteArray) (s : ByteArray) (k : Nat) : Int := ((l.take k).countP fun x => decide (x = s) : Nat)
/-- The first place of a name, counted on from k. -/
def scan (name : ByteArray) : List Meter → Int → Int
  | [], _ => -1
  | m :: t, k => if m.name = name then k else scan name t (k + 1)
theorem scan_find (name : ByteArray) : ∀ (l : List Meter) (k : Int), scan name l k = (match l.findIdx? (fun m => decide (m.name = name)) with
  | some i => (i : Int) + k
  | none => -1)
  | [], k => by simp [scan]
  | m :: t, k => by
    rw [scan, List.findIdx?_cons, scan_find name t (k + 1)]
    by_cases e : m.name = name
    · simp [e]
    · simp only [e, if_false, decide_false, Bool.false_eq_true]
      cases t.findIdx? (fun m => decide (m.name = name)) with
      | none => rfl
      | some i => show (i : Int) + (k + 1) = ((i + 1 : Nat) : Int) + k; omega
theorem scan_all (p : Plan) (name : ByteArray) : scan name p.meters 0 = findM p name := by
  rw [scan_find]
  unfold findM
  cases p.meters.findIdx? (fun m => decide (m.name = name)) with
  | none => rfl
  | some i => simp
theorem scan_drop {name : ByteArray} {l : List Meter} {i : Nat} {m : Meter} (h : l[i]? = some m) : scan name (l.drop i) i = if m.name = name then (i : Int) else scan name (l.drop (i + 1)) ((i : Int) + 1) := by
  obtain ⟨hl, e⟩ := List.getElem?_eq_some_iff.1 h
  rw [List.drop_eq_getElem_cons hl, scan, e]
end Go.Proofs.Ytcbeocpllnmcjaa.L06
/- Blocks of three cells, behind calls that leave them alone: no program is named here. -/
namespace Go.Proofs.Ytcbeocpllnmcjaa.P
open Go.RowKit
/-- Three cells of a block, and that they may be written. -/
structure Lies3 (w : World) (k : Nat) (a b c : Value) : Prop where
  lt : k < w.heap.size
  c0 : w.cell? ⟨k, 0, none⟩ = some a
  c1 : w.cell? ⟨k, 1, none⟩ = some b
  c2 : w.cell? ⟨k, 2, none⟩ = some c
  f0 : w.frozen? ⟨k, 0, none⟩ = false
  f1 : w.frozen? ⟨k, 1, none⟩ = false
  f2 : w.frozen? ⟨k, 2, none⟩ = false
theorem Lies3.on {w W : World} {k : Nat} {a b c : Value} (h : Lies3 w k a b c) (hb : Below w.heap.size w W) : Lies3 W k a b c := by
  obtain ⟨h1, h2, h3, h4, h5, h6, h7⟩ := h
  exact ⟨Nat.lt_of_lt_of_le h1 hb.size, by rw [hb.cell h1]; exact h2, by rw [hb.cell h1]; exact h3, by rw [hb.cell h1]; exact h4,
    by rw [hb.frozen h1]; exact h5, by rw [hb.frozen h1]; exact h6, by rw [hb.frozen h1]; exact h7⟩
theorem Lies3.new {w : World} {k : Nat} {a b c : Value} {t : TypeId} (hk : w.heap.size = k) : Lies3 (w.alloc (.cells #[a, b, c] t)) k a b c := by
  subst hk
  refine ⟨by simp, ?_, ?_, ?_, ?_, ?_, ?_⟩ <;> go_simp
theorem Lies3.later {w w2 : World} {k : Nat} {a b c : Value} {t : TypeId} (hb : Below (w.alloc (.cells #[a, b, c] t)).heap.size (w.alloc (.cells #[a, b, c] t)) w2) (hk : w.heap.size = k) : Lies3 w2 k a b c := (Lies3.new hk).on hb
theorem Lies3.alloc {w : World} {k : Nat} {a b c : Value} (h : Lies3 w k a b c) (o : Obj) : Lies3 (w.alloc o) k a b c := h.on ((Below.refl _ _).alloc (Nat.le_refl _) _)
theorem Lies3.drewN {w : World} {k : Nat} {a b c : Value} (h : Lies3 w k a b c) (n : Nat) : Lies3 (w.drewN n) k a b c := by
  refine h.on ⟨rfl, rfl, rfl, Nat.le_refl _, fun _ _ => rfl⟩
/-- A store into another block. -/
theorem Lies3.other {w : World} {k : Nat} {a b c : Value} (h : Lies3 w k a b c) {j o : Nat} (hj : k ≠ j) (v : Value) : Lies3 (w.setCell ⟨j, o, none⟩ v) k a b c := by
  obtain ⟨h1, h2, h3, h4, h5, h6, h7⟩ := h
  have e := Below.heap_setCell w ⟨j, o, none⟩ v k hj
  refine ⟨?_, ?_, ?_, ?_, ?_, ?_, ?_⟩
  · simpa using h1
  · rw [World.cell?_of_block (w := w) e]; exact h2
  · rw [World.cell?_of_block (w := w) e]; exact h3
  · rw [World.cell?_of_block (w := w) e]; exact h4
  · rw [World.frozen?_of_block (w := w) e]; exact h5
  · rw [World.frozen?_of_block (w := w) e]; exact h6
  · rw [World.frozen?_of_block (w := w) e]; exact h7
end Go.Proofs.Ytcbeocpllnmcjaa.P

/- Plans whose rows a call has made: each in a block of its own, new and free to write. -/
import Derived.Test.YtfeccjcdpiopaaaTreeQ
import Derived.OneCell
import Derived.Maps.AppendAt
namespace Go.Proofs.Ytfeccjcdpiopaaa.Mm
open Go.RowKit Go.Deep P R6

/-- The rows of a plan. -/
inductive Slot where
  | m
  | f
  | c
  | t (i : Nat)
  | a (i : Nat)
deriving DecidableEq
/-- Where a charge's rows lie. -/
structure Hd where
  ta : Option Addr
  tc : Nat
  aa : Option Addr
  ac : Nat
/-- A row: its elements' type and size, its slice, its cells. -/
structure R where
  e : TypeId
  size : Nat
  a : Option Addr
  n : Nat
  cap : Nat
  xs : List Value
def R.v (r : R) : Value := .slice r.a r.n r.cap
/-- Rows, each owned, each in another block. -/
structure Owns (w : World) (base : Nat) (ρ : Slot → Option R) : Prop where
  own : ∀ s r, ρ s = some r → w.ownsRow base r.e r.size r.v r.n r.xs
  apart : ∀ s t r r' k, ρ s = some r → ρ t = some r' → r.v.ownBlock = some k → r'.v.ownBlock = some k → s = t
theorem Owns.on {w w' : World} {base : Nat} {ρ : Slot → Option R} (h : Owns w base ρ) (b : Below w.heap.size w w') : Owns w' base ρ := ⟨fun s r hs => owns_on (h.own s r hs) b, h.apart⟩
/-- The others, where one row's block is written. -/
theorem Owns.others {w w' : World} {base : Nat} {ρ : Slot → Option R} (h : Owns w base ρ) {s : Slot} {r : R} (hs : ρ s = some r) (hg : w.grownBy w' r.v.ownBlock) : ∀ t r', t ≠ s → ρ t = some r' → w'.ownsRow base r'.e r'.size r'.v r'.n r'.xs := by
  intro t r' hne ht
  refine (h.own t r' ht).kept hg ?_
  cases hb : r'.v.ownBlock with
  | none => exact .inl rfl
  | some k =>
    refine .inr (fun e => hne ?_)
    exact h.apart t s r' r k ht hs hb e.symm
theorem Owns.others_set {w : World} {base : Nat} {ρ : Slot → Option R} (h : Owns w base ρ) {s : Slot} {r : R} (hs : ρ s = some r) {p : Addr} (hp : r.v.ownBlock = some p.block) (u : Value) : ∀ t r', t ≠ s → ρ t = some r' → (w.setCell p u).ownsRow base r'.e r'.size r'.v r'.n r'.xs := by
  intro t r' hne ht
  refine ownsRow_setCell_other (h.own t r' ht) (fun e => hne ?_) u
  exact h.apart t s r' r _ ht hs e hp
def zC (x : Charge × Hd) : List Value := chargeC x.1 x.2.ta x.2.tc x.2.aa x.2.ac
theorem zC_len (x : Charge × Hd) : (zC x).length = 16 := rfl
/-- A plan's rows. -/
def rowOf (p : Plan) (ma : Option Addr) (mc : Nat) (fa : Option Addr) (fc : Nat) (ca : Option Addr) (cc : Nat) (hs : List Hd) : Slot → Option R
  | .m => some ⟨38, 5, ma, p.meters.length, mc, p.meters.flatMap meterC⟩
  | .f => some ⟨42, 10, fa, p.fees.length, fc, p.fees.flatMap feeC⟩
  | .c => some ⟨46, 16, ca, p.charges.length, cc, (p.charges.zip hs).flatMap zC⟩
  | .t i => ((p.charges.zip hs)[i]?).map fun x => ⟨49, 2, x.2.ta, x.1.tiers.length, x.2.tc, x.1.tiers.flatMap tierC⟩
  | .a i => ((p.charges.zip hs)[i]?).map fun x => ⟨51, 3, x.2.aa, x.1.adjusts.length, x.2.ac, x.1.adjusts.flatMap adjC⟩
/-- What stands in a plan fits into its cells. -/
structure Fits (p : Plan) : Prop where
  meters : ∀ m ∈ p.meters, strOk m.name ∧ strOk m.unit ∧ I64 m.max ∧ I64 m.line ∧ I64 m.col
  fees : ∀ f ∈ p.fees, I64 f.amount ∧ winOk f.win ∧ I64 f.line ∧ I64 f.col
  charges : ∀ c ∈ p.charges, strOk c.meter ∧ winOk c.win ∧ (I64 c.allowance ∧ I64 c.block ∧ I64 c.kind ∧ I64 c.mode ∧ I64 c.line ∧ I64 c.col) ∧ (∀ t ∈ c.tiers, I64 t.upto ∧ I64 t.rate) ∧ ∀ a ∈ c.adjusts, I64 a.kind ∧ I64 a.num ∧ I64 a.mode
  name : strOk p.name ∧ strOk p.cur
  days : dayOk p.a ∧ dayOk p.b
  place : I64 p.line ∧ I64 p.col
theorem fits_of {w : World} {cs : List Value} {p : Plan} {ma : Option Addr} {mc : Nat} {fa : Option Addr} {fc : Nat} {ca : Option Addr} {cc : Nat} (h : PlanLies w cs p ma mc fa fc ca cc) : Fits p := by
  refine ⟨fun m hm => ?_, fun f hf => ?_, fun c hc => ?_, h.name, h.days, h.place⟩
  · obtain ⟨_, _, k⟩ := row_mem h.meters hm
    exact k
  · obtain ⟨_, _, k⟩ := row_mem h.fees hf
    exact k
  · obtain ⟨_, _, _, _, _, k⟩ := row_mem h.charges hc
    refine ⟨k.meter, k.win, k.nums, fun t ht => ?_, fun a ha => ?_⟩
    · obtain ⟨_, _, k1⟩ := row_mem k.tiers ht
      exact k1
    · obtain ⟨_, _, k1⟩ := row_mem k.adjusts ha
      exact k1
theorem row_of_own {α : Type} {n : Nat} {cells : α → List Value} {ok : α → Prop} {hn : ∀ x, (cells x).length = n} {w : World} {base : Nat} {e : TypeId} {ao : Option Addr} {cap : Nat} {xs : List α} (h : w.ownsRow base e n (.slice ao xs.length cap) xs.length (xs.flatMap cells)) (hok : ∀ x ∈ xs, ok x) :
    Row (leaf n cells ok hn) w ao xs.length cap xs := by
  obtain ⟨ao', cap', e, k⟩ := row_own (ok := ok) (hn := hn) h hok
  simp only [Value.slice.injEq] at e
  obtain ⟨rfl, _, rfl⟩ := e
  exact k
theorem zip_get {α β : Type} {l : List α} {m : List β} {i : Nat} {a : α} {b : β} (h : l[i]? = some a) (k : m[i]? = some b) : (l.zip m)[i]? = some (a, b) := by
  rw [List.getElem?_zip_eq_some]; exact ⟨h, k⟩
/-- Where its rows are owned, a plan lies. -/
theorem lies_of {w : World} {base : Nat} {p : Plan} {ma : Option Addr} {mc : Nat} {fa : Option Addr} {fc : Nat} {ca : Option Addr} {cc : Nat} {hs : List Hd} (hl : hs.length = p.charges.length) (ok : Fits p)
    (h : ∀ s r, rowOf p ma mc fa fc ca cc hs s = some r → w.ownsRow base r.e r.size r.v r.n r.xs) : PlanLies w (planC p ma mc fa fc ca cc) p ma mc fa fc ca cc := by
  refine ⟨rfl, row_of_own (h .m _ rfl) ok.meters, row_of_own (h .f _ rfl) ok.fees, ?_, ok.name, ok.days, ok.place⟩
  have hc := h .c _ rfl
  have hz : (p.charges.zip hs).length = p.charges.length := by rw [List.length_zip, hl, Nat.min_self]
  rcases hc.2 with ⟨h1, h2⟩ | ⟨g, cap, cur, h1, _, h3, h4, h5, _, _⟩
  · simp only [R.v, Value.slice.injEq] at h1
    obtain ⟨rfl, h1b, rfl⟩ := h1
    exact ⟨rfl, Nat.le_of_eq h1b, Nat.zero_le _, fun n => absurd (List.eq_nil_of_length_eq_zero h1b) n⟩
  · simp only [R.v, Value.slice.injEq] at h1
    obtain ⟨rfl, _, rfl⟩ := h1
    have hg : g < w.heap.size := by
      rcases Nat.lt_or_ge g w.heap.size with k | k
      · exact k
      · rw [Array.getElem?_eq_none k] at h3; cases h3
    refine ⟨rfl, h4, by unfold maxLen at h5; omega, fun _ => ⟨g, 0, rfl, hg, fun j c hj => ?_⟩⟩
    have hjl := (List.getElem?_eq_some_iff.1 hj).1
    obtain ⟨d, hd⟩ : ∃ d, hs[j]? = some d := ⟨_, List.getElem?_eq_getElem (by omega)⟩
    have hzj := zip_get hj hd
    obtain ⟨o1, o2, o3, o4, o5⟩ := ok.charges c (List.mem_of_getElem? hj)
    have ht := h (.t j) ⟨_, 2, d.ta, c.tiers.length, d.tc, c.tiers.flatMap tierC⟩ (by show Option.map _ ((p.charges.zip hs)[j]?) = _; rw [hzj]; rfl)
    have ha := h (.a j) ⟨_, 3, d.aa, c.adjusts.length, d.ac, c.adjusts.flatMap adjC⟩ (by show Option.map _ ((p.charges.zip hs)[j]?) = _; rw [hzj]; rfl)
    refine ⟨chargeC c d.ta d.tc d.aa d.ac, ⟨d.ta, d.tc, d.aa, d.ac, rfl, row_of_own ht o4, row_of_own ha o5, o1, o2, o3⟩, fun i u hi => ?_⟩
    have hil : i < 16 := (List.getElem?_eq_some_iff.1 hi).1
    have hlt : j * 16 + i < p.charges.length * 16 := by omega
    show w.cell? ⟨g, 0 + j * 16 + i, none⟩ = some u
    rw [Nat.zero_add, World.ownsRow.cellAt hc _ hlt]
    exact flat_get (cells := zC) zC_len _ j (c, d) i u hzj hi
/-- One charge otherwise. -/
theorem flat_set {α β : Type} {cells : α → List β} {n : Nat} (hn : ∀ x, (cells x).length = n) : ∀ (xs : List α) (j : Nat) (x y : α) (i : Nat) (u : β), xs[j]? = some x → i < n → cells y = (cells x).set i u → (xs.flatMap cells).set (j * n + i) u = (xs.set j y).flatMap cells
  | [], j, _, _, _, _, hj, _, _ => by cases j <;> cases hj
  | a :: r, 0, x, y, i, u, hj, hi, e => by
    obtain rfl : a = x := by simpa using hj
    rw [List.flatMap_cons, Nat.zero_mul, Nat.zero_add, List.set_append_left _ _ (by rw [hn]; exact hi), List.set_cons_zero, List.flatMap_cons, e]
  | a :: r, j + 1, x, y, i, u, hj, hi, e => by
    rw [List.flatMap_cons, List.set_append_right _ _ (by rw [hn, Nat.succ_mul]; omega), hn, show (j + 1) * n + i - n = j * n + i by rw [Nat.succ_mul]; omega, flat_set hn r j x y i u (by simpa using hj) hi e, List.set_cons_succ, List.flatMap_cons]
/-- A struct's block. -/
structure Box (W : World) (b : Nat) (cs : List Value) : Prop where
  lt : b < W.heap.size
  cell : ∀ j u, cs[j]? = some u → W.cell? ⟨b, j, none⟩ = some u
  free : ∀ j, W.frozen? ⟨b, j, none⟩ = false
theorem Box.new (w : World) (cs : List Value) (t : TypeId) : Box (w.alloc (.cells cs.toArray t)) w.heap.size cs := by
  refine ⟨by simp, fun j u h => ?_, fun j => ?_⟩
  · rw [World.cell?_alloc_new]
    simpa using h
  · simp
theorem Box.on {W W' : World} {b : Nat} {cs : List Value} (h : Box W b cs) (hb : Below W.heap.size W W') : Box W' b cs :=
  ⟨Nat.lt_of_lt_of_le h.lt hb.size, fun j u k => by rw [hb.cell h.lt]; exact h.cell j u k, fun j => by rw [hb.frozen h.lt]; exact h.free j⟩
theorem Box.grown {W W' : World} {b : Nat} {cs : List Value} (h : Box W b cs) {row : Option Nat} (hg : W.grownBy W' row) (hne : some b ≠ row) : Box W' b cs :=
  ⟨Nat.lt_of_lt_of_le h.lt hg.size, fun j u k => by rw [World.cell?_of_block (w := W) (hg.block b h.lt hne)]; exact h.cell j u k, fun j => by rw [World.frozen?_of_block (w := W) (hg.block b h.lt hne)]; exact h.free j⟩
theorem Box.other {W : World} {b : Nat} {cs : List Value} (h : Box W b cs) {p : Addr} (hp : b ≠ p.block) (u : Value) : Box (W.setCell p u) b cs :=
  ⟨by simpa using h.lt, fun j v k => by rw [World.cell?_of_block (w := W) (Below.heap_setCell _ _ _ _ hp)]; exact h.cell j v k, fun j => by rw [World.frozen?_of_block (w := W) (Below.heap_setCell _ _ _ _ hp)]; exact h.free j⟩
theorem Box.set {W : World} {b : Nat} {cs : List Value} (h : Box W b cs) (i : Nat) (u : Value) : Box (W.setCell ⟨b, i, none⟩ u) b (cs.set i u) := by
  refine ⟨by simpa using h.lt, fun j v k => ?_, fun j => ?_⟩
  · rw [List.getElem?_set] at k
    split at k
    · rename_i e
      subst e
      split at k
      · rename_i hi
        obtain rfl : u = v := by simpa using k
        have := h.cell i (cs[i]'hi) (List.getElem?_eq_getElem hi)
        exact World.cell?_setCell_same (h := this) ..
      · cases k
    · rename_i e
      rw [World.cell?_setCell_other (h := show (⟨b, i, none⟩ : Addr) ≠ ⟨b, j, none⟩ by simp only [ne_eq, Addr.mk.injEq, and_true, true_and]; exact e) ..]
      exact h.cell j v k
  · simpa using h.free j
theorem zip_set {α β : Type} : ∀ (l : List α) (m : List β) (j : Nat) (a : α) (b : β), (l.set j a).zip (m.set j b) = (l.zip m).set j (a, b)
  | [], _, _, _, _ => by simp
  | _ :: _, [], _, _, _ => by simp
  | x :: l, y :: m, 0, a, b => rfl
  | x :: l, y :: m, j + 1, a, b => by
    rw [List.set_cons_succ, List.set_cons_succ, List.zip_cons_cons, List.zip_cons_cons, List.set_cons_succ, zip_set l m j a b]
end Go.Proofs.Ytfeccjcdpiopaaa.Mm

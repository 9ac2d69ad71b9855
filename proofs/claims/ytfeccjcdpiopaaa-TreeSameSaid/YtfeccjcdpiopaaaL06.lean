/- The laws of layer 6, out of what package tree answers ('Tr'): alive. -/
import Derived.Test.YtfeccjcdpiopaaaTreeQ
import Derived.Laws.Cover1
namespace Go.Proofs.Ytfeccjcdpiopaaa.L06
open Go.RowKit Go.Sort P Mm R6

/-- The place of the first meter of a name. -/
def findM (p : Plan) (name : ByteArray) : Int := match p.meters.findIdx? (fun m => decide (m.name = name)) with
  | some i => i
  | none => -1
/-- Texts that rise. -/
def Rising (l : List ByteArray) : Prop := ∀ (i : Nat) (a b : ByteArray), l[i]? = some a → l[i + 1]? = some b → Op.bytesLess b.toList a.toList = false
/-- Rows of which no one is greater than a text of a script can tell. -/
structure Mid (p : Plan) : Prop where
  meters : p.meters.length ≤ 100000
  fees : p.fees.length ≤ 100000
  charges : p.charges.length ≤ 100000
  parts : ∀ c ∈ p.charges, c.tiers.length ≤ 100000 ∧ c.adjusts.length ≤ 100000
theorem mid_of {p : Plan} (h : Small p) : Mid p :=
  ⟨Nat.le_trans h.meters (by decide), Nat.le_trans h.fees (by decide), Nat.le_trans h.charges (by decide), fun c hc => ⟨Nat.le_trans (h.parts c hc).1 (by decide), Nat.le_trans (h.parts c hc).2 (by decide)⟩⟩
/-- What package tree answers of plans, in the worlds that K tells. -/
structure Tr (K : World → Prop) : Prop where
  keep : ∀ {w w' : World}, K w → Below w.heap.size w w' → K w'
  same : ∀ (p q : Plan) (ma : Option Addr) (mc : Nat) (fa : Option Addr) (fc : Nat) (ca : Option Addr) (cc : Nat) (ma' : Option Addr) (mc' : Nat) (fa' : Option Addr) (fc' : Nat) (ca' : Option Addr) (cc' : Nat) (w : World), K w →
    PlanLies w (planC p ma mc fa fc ca cc) p ma mc fa fc ca cc → PlanLies w (planC q ma' mc' fa' fc' ca' cc') q ma' mc' fa' fc' ca' cc' →
    Calls Try.prog 12 #[.agg (planC p ma mc fa fc ca cc).toArray, .agg (planC q ma' mc' fa' fc' ca' cc').toArray] w fun e w' => ∃ b : Bool, (b = true ↔ noPl p = noPl q) ∧ e = .returned (.bool b) ∧ Below w.heap.size w w'
  plain : ∀ (p : Plan) (ma : Option Addr) (mc : Nat) (fa : Option Addr) (fc : Nat) (ca : Option Addr) (cc : Nat) (w : World), K w → Mid p → PlanLies w (planC p ma mc fa fc ca cc) p ma mc fa fc ca cc →
    Calls Try.prog 11 #[.agg (planC p ma mc fa fc ca cc).toArray] w fun e w' => ∃ ma' mc' fa' fc' ca' cc', e = .returned (.agg (planC (noPl p) ma' mc' fa' fc' ca' cc').toArray) ∧
      PlanLies w' (planC (noPl p) ma' mc' fa' fc' ca' cc') (noPl p) ma' mc' fa' fc' ca' cc' ∧ Below w.heap.size w w'
  meter : ∀ (p : Plan) (name : ByteArray) (ma : Option Addr) (mc : Nat) (fa : Option Addr) (fc : Nat) (ca : Option Addr) (cc : Nat) (w : World), K w → PlanLies w (planC p ma mc fa fc ca cc) p ma mc fa fc ca cc →
    Calls Try.prog 16 #[.agg (planC p ma mc fa fc ca cc).toArray, .string name] w fun e w' => e = .returned (.int .i64 (findM p name)) ∧ Below w.heap.size w w'
  names : ∀ (p : Plan) (ma : Option Addr) (mc : Nat) (fa : Option Addr) (fc : Nat) (ca : Option Addr) (cc : Nat) (w : World), K w → p.meters.length ≤ 1000 → PlanLies w (planC p ma mc fa fc ca cc) p ma mc fa fc ca cc →
    Calls Try.prog 15 #[.agg (planC p ma mc fa fc ca cc).toArray] w fun e w' => ∃ ao cap l, e = .returned (.slice ao l.length cap) ∧ Row tS w' ao l.length cap l ∧ l.Perm (p.meters.map fun m => m.name) ∧ Rising l ∧ Below w.heap.size w w'
/-- A row of plain data that has just been laid. -/
theorem row_lit {α : Type} {n : Nat} {cells : α → List Value} {ok : α → Prop} {hn : ∀ x, (cells x).length = n} {w : World} {t : TypeId} {xs : List α} (hok : ∀ x ∈ xs, ok x) (hl : xs.length ≤ 1000) :
    Row (leaf n cells ok hn) (w.alloc (.cells (xs.flatMap cells).toArray t)) (some ⟨w.heap.size, 0, none⟩) xs.length xs.length xs := by
  have h : (w.alloc (.cells (xs.flatMap cells).toArray t)).ownsRow w.heap.size t n (.slice (some ⟨w.heap.size, 0, none⟩) xs.length xs.length) xs.length (xs.flatMap cells) := by
    have := World.ownsRow_lit w (xs.flatMap cells).toArray xs.length (size := n) (base := w.heap.size) (e := t) (Nat.le_refl _) (by unfold maxLen; omega) (by simp [flat_len hn])
    simpa using this
  obtain ⟨ao, cap, e, k⟩ := row_own (ok := ok) (hn := hn) h hok
  simp only [Value.slice.injEq] at e
  obtain ⟨rfl, _, rfl⟩ := e
  exact k
theorem row_nil {α : Type} {T : Ty α} {w : World} : Row T w none 0 0 [] := ⟨rfl, Nat.le_refl _, Nat.zero_le _, fun h => absurd rfl h⟩
def mB (col : Int) : Meter := ⟨⟨#[98]⟩, ⟨#[]⟩, 0, 0, col⟩
def mA : Meter := ⟨⟨#[97]⟩, ⟨#[]⟩, 0, 0, 0⟩
def d0 : Day := ⟨0, 0, 0⟩
def p0 : Plan := ⟨⟨#[112]⟩, ⟨#[]⟩, d0, d0, [mB 0, mA], [], [], 0, 0⟩
def q0 : Plan := ⟨⟨#[112]⟩, ⟨#[]⟩, d0, d0, [mB 7, mA], [⟨5, ⟨false, d0, d0⟩, 0, 0⟩], [], 3, 0⟩
theorem tiny {s : ByteArray} (h : s.size ≤ 10) : strOk s := by unfold strOk; omega
theorem i64_5 : I64 5 := by unfold I64; omega
theorem i64_3 : I64 3 := by unfold I64; omega
theorem days0 : dayOk d0 ∧ dayOk d0 := ⟨⟨i64_0, i64_0, i64_0⟩, ⟨i64_0, i64_0, i64_0⟩⟩
theorem meters_ok (col : Int) (hc : I64 col) : ∀ x ∈ [mB col, mA], strOk x.name ∧ strOk x.unit ∧ I64 x.max ∧ I64 x.line ∧ I64 x.col := by
  intro x hx
  simp at hx
  rcases hx with rfl | rfl
  · exact ⟨tiny (show (⟨#[98]⟩ : ByteArray).size ≤ 10 by decide), tiny (show (⟨#[]⟩ : ByteArray).size ≤ 10 by decide), i64_0, i64_0, hc⟩
  · exact ⟨tiny (by decide), tiny (by decide), i64_0, i64_0, i64_0⟩
theorem p0_lies (w : World) : PlanLies (w.alloc (.cells ([mB 0, mA].flatMap meterC).toArray 38)) (planC p0 (some ⟨w.heap.size, 0, none⟩) 2 none 0 none 0) p0 (some ⟨w.heap.size, 0, none⟩) 2 none 0 none 0 :=
  ⟨rfl, row_lit (meters_ok 0 i64_0) (by decide), row_nil, row_nil, ⟨tiny (by decide), tiny (by decide)⟩, days0, i64_0, i64_0⟩
theorem q0_lies (w : World) : PlanLies ((w.alloc (.cells ([mB 7, mA].flatMap meterC).toArray 38)).alloc (.cells (([⟨5, ⟨false, d0, d0⟩, 0, 0⟩] : List Fee).flatMap feeC).toArray 42))
    (planC q0 (some ⟨w.heap.size, 0, none⟩) 2 (some ⟨w.heap.size + 1, 0, none⟩) 1 none 0) q0 (some ⟨w.heap.size, 0, none⟩) 2 (some ⟨w.heap.size + 1, 0, none⟩) 1 none 0 :=
  ⟨rfl, (row_lit (meters_ok 7 (by unfold I64; omega)) (by decide)).alloc _, by
    have := row_lit (n := 10) (cells := feeC) (ok := fun f => I64 f.amount ∧ winOk f.win ∧ I64 f.line ∧ I64 f.col) (hn := fun _ => rfl) (w := w.alloc (.cells ([mB 7, mA].flatMap meterC).toArray 38)) (t := 42) (xs := [⟨5, ⟨false, d0, d0⟩, 0, 0⟩]) (by intro x hx; simp at hx; subst hx; exact ⟨i64_5, days0, i64_0, i64_0⟩) (by decide)
    rw [show (w.alloc (.cells ([mB 7, mA].flatMap meterC).toArray 38)).heap.size = w.heap.size + 1 by simp] at this
    exact this, row_nil, ⟨tiny (by decide), tiny (by decide)⟩, days0, i64_3, i64_0⟩
theorem p0_q0 : ¬ noPl p0 = noPl q0 := by
  intro h
  have := congrArg (fun p : Plan => p.fees.length) h
  exact absurd this (by decide)
theorem find0 : findM p0 ⟨#[97]⟩ = 1 := by decide
theorem names0 {l : List ByteArray} (h : l.Perm (p0.meters.map fun m => m.name)) (hr : Rising l) : l = [⟨#[97]⟩, ⟨#[98]⟩] := by
  have h' : l.Perm [⟨#[98]⟩, ⟨#[97]⟩] := h
  have hl := h'.length_eq
  match l, hl with
  | [a, b], _ =>
    have ha : a ∈ ([⟨#[98]⟩, ⟨#[97]⟩] : List ByteArray) := h'.subset (List.mem_cons_self ..)
    simp only [List.mem_cons, List.not_mem_nil, or_false] at ha
    rcases ha with rfl | rfl
    · have hb := h'.cons_inv
      have hb2 := hb.eq_singleton
      simp only [List.cons.injEq, and_true] at hb2
      subst hb2
      have := hr 0 _ _ rfl rfl
      rw [ByteArray.toList_eq, ByteArray.toList_eq] at this
      exact absurd this (by decide)
    · have hb := (h'.trans (List.Perm.swap _ _ _)).cons_inv
      have hb2 := hb.eq_singleton
      rw [hb2]
end Go.Proofs.Ytfeccjcdpiopaaa.L06

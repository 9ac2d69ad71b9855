/- Plans without places, and their rows of texts, as plain data: two rows are the same just if the plans are, but for places. -/
import Derived.Test.YtnhhhnngocdagaaDoorJRef6g
import Derived.Laws.Cover1
import Derived.BigQuiet
import Derived.Test.YtnhhhnngocdagaaDoorJPureD
import Derived.WalkSmall
import Derived.WalkKit
namespace Go.Proofs.YtnhhhnngocdagaaDoor.R6
open Go.RowKit Mm P
def nM (m : Meter) : Meter := { m with line := 0, col := 0 }
def nF (f : Fee) : Fee := { f with line := 0, col := 0 }
def nC (c : Charge) : Charge := { c with line := 0, col := 0 }
/-- A plan without places. -/
def noPl (p : Plan) : Plan := { p with line := 0, col := 0, meters := p.meters.map nM, fees := p.fees.map nF, charges := p.charges.map nC }
/-- What a plan in memory is: numbers of 64 bits. -/
structure PlanOk (p : Plan) : Prop where
  days : dayOk p.a ∧ dayOk p.b
  meters : ∀ m ∈ p.meters, I64 m.max
  fees : ∀ f ∈ p.fees, I64 f.amount ∧ winOk f.win
  charges : ∀ c ∈ p.charges, winOk c.win ∧ (I64 c.allowance ∧ I64 c.block ∧ I64 c.kind ∧ I64 c.mode) ∧ (∀ t ∈ c.tiers, I64 t.upto ∧ I64 t.rate) ∧ ∀ a ∈ c.adjusts, I64 a.kind ∧ I64 a.num ∧ I64 a.mode
theorem row_mem {α : Type} {T : Ty α} {w : World} {ao : Option Addr} {len cap : Nat} {xs : List α} (h : Row T w ao len cap xs) {x : α} (hx : x ∈ xs) : ∃ cs, T.lies w cs x := by
  obtain ⟨j, hj, e⟩ := List.getElem_of_mem hx
  obtain ⟨_, _, cs, _, _, h3, _⟩ := h.at (j := j) (x := x) (by rw [List.getElem?_eq_getElem hj, e])
  exact ⟨cs, h3⟩
theorem ok_of {w : World} {cs : List Value} {p : Plan} {ma : Option Addr} {mc : Nat} {fa : Option Addr} {fc : Nat} {ca : Option Addr} {cc : Nat} (h : PlanLies w cs p ma mc fa fc ca cc) : PlanOk p := by
  refine ⟨h.days, fun m hm => ?_, fun f hf => ?_, fun c hc => ?_⟩
  · obtain ⟨_, _, _, _, k, _⟩ := row_mem h.meters hm
    exact k
  · obtain ⟨_, _, k1, k2, _⟩ := row_mem h.fees hf
    exact ⟨k1, k2⟩
  · obtain ⟨_, _, _, _, _, k⟩ := row_mem h.charges hc
    refine ⟨k.win, ⟨k.nums.1, k.nums.2.1, k.nums.2.2.1, k.nums.2.2.2.1⟩, fun t ht => ?_, fun a ha => ?_⟩
    · obtain ⟨_, _, k1⟩ := row_mem k.tiers ht
      exact k1
    · obtain ⟨_, _, k1⟩ := row_mem k.adjusts ha
      exact k1
theorem row_noPl (p : Plan) : row (noPl p) = row p := by
  unfold row noPl rHead
  simp only [List.flatMap_map, List.length_map]
  rfl
theorem yes_no : yes ≠ no := by
  intro h
  have := congrArg ByteArray.size h
  exact absurd this (by decide)
theorem rW_inj {a b : Win} (ha : winOk a) (hb : winOk b) (h : rW a = rW b) : a = b := by
  unfold rW at h
  simp only [List.cons.injEq, and_true] at h
  obtain ⟨h0, h1, h2, h3, h4, h5, h6⟩ := h
  obtain ⟨⟨x1, x2, x3⟩, x4, x5, x6⟩ := ha
  obtain ⟨⟨y1, y2, y3⟩, y4, y5, y6⟩ := hb
  have k0 : a.has = b.has := by
    rcases Bool.eq_false_or_eq_true a.has with u | u <;> rcases Bool.eq_false_or_eq_true b.has with v | v <;> rw [u, v] at h0 ⊢ <;> simp at h0
    · exact absurd h0 yes_no
    · exact absurd h0.symm yes_no
  obtain ⟨_, ⟨_, _, _⟩, ⟨_, _, _⟩⟩ := a
  obtain ⟨_, ⟨_, _, _⟩, ⟨_, _, _⟩⟩ := b
  obtain rfl := k0
  obtain rfl := t8_inj x1 y1 h1
  obtain rfl := t8_inj x2 y2 h2
  obtain rfl := t8_inj x3 y3 h3
  obtain rfl := t8_inj x4 y4 h4
  obtain rfl := t8_inj x5 y5 h5
  obtain rfl := t8_inj x6 y6 h6
  rfl
theorem flat_inj {α β : Type} {f : α → List β} {n : Nat} (hn : ∀ x, (f x).length = n) : ∀ (xs ys : List α) (r s : List β), xs.length = ys.length → xs.flatMap f ++ r = ys.flatMap f ++ s → xs.map f = ys.map f ∧ r = s
  | [], [], _, _, _, h => ⟨rfl, h⟩
  | x :: xs, y :: ys, r, s, hl, h => by
    rw [List.flatMap_cons, List.flatMap_cons, List.append_assoc, List.append_assoc] at h
    obtain ⟨h1, h2⟩ := List.append_inj h (by rw [hn, hn])
    obtain ⟨h3, h4⟩ := flat_inj hn xs ys r s (by simpa using hl) h2
    exact ⟨by rw [List.map_cons, List.map_cons, h1, h3], h4⟩
theorem map_lift {α β γ : Type} {f : α → β} {g : α → γ} {ok : α → Prop} (hfg : ∀ x y, ok x → ok y → f x = f y → g x = g y) : ∀ (xs ys : List α), (∀ x ∈ xs, ok x) → (∀ y ∈ ys, ok y) → xs.map f = ys.map f → xs.map g = ys.map g
  | [], [], _, _, _ => rfl
  | [], _ :: _, _, _, h => by cases h
  | _ :: _, [], _, _, h => by cases h
  | x :: xs, y :: ys, hx, hy, h => by
    rw [List.map_cons, List.map_cons, List.cons.injEq] at h
    rw [List.map_cons, List.map_cons, hfg x y (hx _ (.head _)) (hy _ (.head _)) h.1, map_lift hfg xs ys (fun z hz => hx z (.tail _ hz)) (fun z hz => hy z (.tail _ hz)) h.2]
theorem map_self {α : Type} {xs ys : List α} (h : xs.map (fun x => x) = ys.map (fun x => x)) : xs = ys := by simpa using h
theorem len_inj {a b : Nat} (ha : a ≤ 1000000) (hb : b ≤ 1000000) (h : t8 (a : Int) = t8 (b : Int)) : a = b := by
  have := t8_inj (n := (a : Int)) (m := (b : Int)) (by unfold I64; omega) (by unfold I64; omega) h
  omega
theorem rM_inj (m n : Meter) (hm : I64 m.max) (hn : I64 n.max) (h : rM m = rM n) : nM m = nM n := by
  unfold rM at h
  simp only [List.cons.injEq, and_true] at h
  have := t8_inj hm hn h.2.2
  unfold nM
  rw [h.1, h.2.1, this]
theorem rF_inj (m n : Fee) (hm : I64 m.amount ∧ winOk m.win) (hn : I64 n.amount ∧ winOk n.win) (h : rF m = rF n) : nF m = nF n := by
  unfold rF at h
  rw [List.cons.injEq] at h
  have h1 := t8_inj hm.1 hn.1 h.1
  have h2 := rW_inj hm.2 hn.2 h.2
  unfold nF
  rw [h1, h2]
def chOk (c : Charge) : Prop := (winOk c.win ∧ (I64 c.allowance ∧ I64 c.block ∧ I64 c.kind ∧ I64 c.mode) ∧ (∀ t ∈ c.tiers, I64 t.upto ∧ I64 t.rate) ∧ ∀ a ∈ c.adjusts, I64 a.kind ∧ I64 a.num ∧ I64 a.mode) ∧ c.tiers.length ≤ 20000 ∧ c.adjusts.length ≤ 20000
theorem rC_inj {c d : Charge} {r s : List ByteArray} (hc : chOk c) (hd : chOk d) (h : rC c ++ r = rC d ++ s) : nC c = nC d ∧ r = s := by
  obtain ⟨⟨c1, ⟨c2, c3, c4, c5⟩, c6, c7⟩, c8, c9⟩ := hc
  obtain ⟨⟨d1, ⟨d2, d3, d4, d5⟩, d6, d7⟩, d8, d9⟩ := hd
  unfold rC at h
  rw [List.append_assoc, List.append_assoc, List.append_assoc, List.append_assoc] at h
  obtain ⟨h1, h2⟩ := List.append_inj h rfl
  unfold rCh at h1
  rw [List.cons_append, List.cons_append, List.cons.injEq] at h1
  obtain ⟨h3, h4⟩ := h1
  obtain ⟨h5, h6⟩ := List.append_inj h4 rfl
  have w := rW_inj c1 d1 h5
  simp only [List.cons.injEq, and_true] at h6
  obtain ⟨e1, e2, e3, e4, e5, e6⟩ := h6
  have l1 := len_inj (by omega) (by omega) e5
  have l2 := len_inj (by omega) (by omega) e6
  obtain ⟨m1, h7⟩ := flat_inj (f := rT) (n := 2) (fun _ => rfl) _ _ _ _ l1 h2
  obtain ⟨m2, h8⟩ := flat_inj (f := rA) (n := 3) (fun _ => rfl) _ _ _ _ l2 h7
  have t1 : c.tiers = d.tiers := map_self (map_lift (ok := fun t => I64 t.upto ∧ I64 t.rate) (fun x y hx hy e => by
    unfold rT at e
    simp only [List.cons.injEq, and_true] at e
    have a := t8_inj hx.1 hy.1 e.1
    have b := t8_inj hx.2 hy.2 e.2
    obtain ⟨_, _⟩ := x
    obtain ⟨_, _⟩ := y
    simp only at a b
    rw [a, b]) _ _ c6 d6 m1)
  have t2 : c.adjusts = d.adjusts := map_self (map_lift (ok := fun a => I64 a.kind ∧ I64 a.num ∧ I64 a.mode) (fun x y hx hy e => by
    unfold rA at e
    simp only [List.cons.injEq, and_true] at e
    have a := t8_inj hx.1 hy.1 e.1
    have b := t8_inj hx.2.1 hy.2.1 e.2.1
    have c := t8_inj hx.2.2 hy.2.2 e.2.2
    obtain ⟨_, _, _⟩ := x
    obtain ⟨_, _, _⟩ := y
    simp only at a b c
    rw [a, b, c]) _ _ c7 d7 m2)
  refine ⟨?_, h8⟩
  have k1 := t8_inj c2 d2 e1
  have k2 := t8_inj c3 d3 e2
  have k3 := t8_inj c4 d4 e3
  have k4 := t8_inj c5 d5 e4
  unfold nC
  rw [h3, w, k1, k2, k3, k4, t1, t2]
theorem charges_inj (xs : List Charge) : ∀ (ys : List Charge), (∀ c ∈ xs, chOk c) → (∀ c ∈ ys, chOk c) → xs.length = ys.length → xs.flatMap rC = ys.flatMap rC → xs.map nC = ys.map nC := by
  induction xs with
  | nil =>
    intro ys _ _ hl _
    obtain rfl : ys = [] := List.eq_nil_of_length_eq_zero hl.symm
    rfl
  | cons x r ih =>
    intro ys hx hy hl h
    cases ys with
    | nil => cases hl
    | cons y s =>
      have e1 : (x :: r).flatMap rC = rC x ++ r.flatMap rC := List.flatMap_cons
      have e2 : (y :: s).flatMap rC = rC y ++ s.flatMap rC := List.flatMap_cons
      rw [e1, e2] at h
      have k := rC_inj (hx x (List.mem_cons_self ..)) (hy y (List.mem_cons_self ..)) h
      have k2 := ih s (fun z hz => hx z (List.mem_cons_of_mem _ hz)) (fun z hz => hy z (List.mem_cons_of_mem _ hz)) (by simpa using hl) k.2
      rw [List.map_cons, List.map_cons, k.1, k2]
theorem row_inj {p q : Plan} (op : PlanOk p) (oq : PlanOk q) (sp : Small p) (sq : Small q) : row p = row q ↔ noPl p = noPl q := by
  constructor
  · intro h
    unfold row at h
    rw [List.append_assoc, List.append_assoc, List.append_assoc, List.append_assoc] at h
    obtain ⟨h1, h2⟩ := List.append_inj h rfl
    unfold rHead at h1
    rw [List.append_assoc, List.append_assoc] at h1
    obtain ⟨g1, g2⟩ := List.append_inj h1 rfl
    obtain ⟨g3, g4⟩ := List.append_inj g2 rfl
    simp only [List.cons.injEq, and_true] at g1 g4
    have w := rW_inj (a := ⟨false, p.a, p.b⟩) (b := ⟨false, q.a, q.b⟩) op.days oq.days g3
    have b1 := sp.meters; have b2 := sp.fees; have b3 := sp.charges
    have b4 := sq.meters; have b5 := sq.fees; have b6 := sq.charges
    have l1 := len_inj (by omega) (by omega) g4.1
    have l2 := len_inj (by omega) (by omega) g4.2.1
    have l3 := len_inj (by omega) (by omega) g4.2.2
    obtain ⟨m1, h3⟩ := flat_inj (f := rM) (n := 3) (fun _ => rfl) _ _ _ _ l1 h2
    obtain ⟨m2, h4⟩ := flat_inj (f := rF) (n := 8) (fun _ => rfl) _ _ _ _ l2 h3
    have t1 := map_lift (g := nM) rM_inj _ _ op.meters oq.meters m1
    have t2 := map_lift (g := nF) rF_inj _ _ op.fees oq.fees m2
    have t3 := charges_inj _ _ (fun c hc => ⟨op.charges c hc, sp.parts c hc⟩) (fun c hc => ⟨oq.charges c hc, sq.parts c hc⟩) l3 h4
    simp only [Win.mk.injEq, true_and] at w
    unfold noPl
    rw [g1.1, g1.2, w.1, w.2, t1, t2, t3]
  · intro h
    rw [← row_noPl p, ← row_noPl q, h]
end Go.Proofs.YtnhhhnngocdagaaDoor.R6
/- The laws of layer 6, out of what package tree answers ('Tr'): alive. -/
namespace Go.Proofs.YtnhhhnngocdagaaDoor.L06
open Go.RowKit Go.Sort P Mm R6
/-- The place of the first meter of a name. -/
def findM (p : Plan) (name : ByteArray) : Int := match p.meters.findIdx? (fun m => decide (m.name = name)) with
  | some i => i
  | none => -1
/-- Texts that rise. -/
def Rising (l : List ByteArray) : Prop := ∀ (i : Nat) (a b : ByteArray), l[i]? = some a → l[i + 1]? = some b → Op.bytesLess b.toList a.toList = false
/-- Rows of which no one is greater than a text of a script can tell. -/
structure Mid (p : Plan) : Prop where
  meters : p.meters.length ≤ 100000
  fees : p.fees.length ≤ 100000
  charges : p.charges.length ≤ 100000
  parts : ∀ c ∈ p.charges, c.tiers.length ≤ 100000 ∧ c.adjusts.length ≤ 100000
theorem mid_of {p : Plan} (h : Small p) : Mid p :=
  ⟨Nat.le_trans h.meters (by decide), Nat.le_trans h.fees (by decide), Nat.le_trans h.charges (by decide), fun c hc => ⟨Nat.le_trans (h.parts c hc).1 (by decide), Nat.le_trans (h.parts c hc).2 (by decide)⟩⟩
/-- A row of plain data that has just been laid. -/
theorem row_lit {α : Type} {n : Nat} {cells : α → List Value} {ok : α → Prop} {hn : ∀ x, (cells x).length = n} {w : World} {t : TypeId} {xs : List α} (hok : ∀ x ∈ xs, ok x) (hl : xs.length ≤ 1000) :
    Row (leaf n cells ok hn) (w.alloc (.cells (xs.flatMap cells).toArray t)) (some ⟨w.heap.size, 0, none⟩) xs.length xs.length xs := by
  have h : (w.alloc (.cells (xs.flatMap cells).toArray t)).ownsRow w.heap.size t n (.slice (some ⟨w.heap.size, 0, none⟩) xs.length xs.length) xs.length (xs.flatMap cells) := by
    have := World.ownsRow_lit w (xs.flatMap cells).toArray xs.length (size := n) (base := w.heap.size) (e := t) (Nat.le_refl _) (by unfold maxLen; omega) (by simp [flat_len hn])
    simpa using this
  obtain ⟨ao, cap, e, k⟩ := row_own (ok := ok) (hn := hn) h hok
  simp only [Value.slice.injEq] at e
  obtain ⟨rfl, _, rfl⟩ := e
  exact k
theorem row_nil {α : Type} {T : Ty α} {w : World} : Row T w none 0 0 [] := ⟨rfl, Nat.le_refl _, Nat.zero_le _, fun h => absurd rfl h⟩
def mB (col : Int) : Meter := ⟨⟨#[98]⟩, ⟨#[]⟩, 0, 0, col⟩
def mA : Meter := ⟨⟨#[97]⟩, ⟨#[]⟩, 0, 0, 0⟩
def d0 : Day := ⟨0, 0, 0⟩
def p0 : Plan := ⟨⟨#[112]⟩, ⟨#[]⟩, d0, d0, [mB 0, mA], [], [], 0, 0⟩
def q0 : Plan := ⟨⟨#[112]⟩, ⟨#[]⟩, d0, d0, [mB 7, mA], [⟨5, ⟨false, d0, d0⟩, 0, 0⟩], [], 3, 0⟩
theorem tiny {s : ByteArray} (h : s.size ≤ 10) : strOk s := by unfold strOk; omega
theorem i64_5 : I64 5 := by unfold I64; omega
theorem i64_3 : I64 3 := by unfold I64; omega
theorem days0 : dayOk d0 ∧ dayOk d0 := ⟨⟨i64_0, i64_0, i64_0⟩, ⟨i64_0, i64_0, i64_0⟩⟩
theorem meters_ok (col : Int) (hc : I64 col) : ∀ x ∈ [mB col, mA], strOk x.name ∧ strOk x.unit ∧ I64 x.max ∧ I64 x.line ∧ I64 x.col := by
  intro x hx
  simp at hx
  rcases hx with rfl | rfl
  · exact ⟨tiny (show (⟨#[98]⟩ : ByteArray).size ≤ 10 by decide), tiny (show (⟨#[]⟩ : ByteArray).size ≤ 10 by decide), i64_0, i64_0, hc⟩
  · exact ⟨tiny (by decide), tiny (by decide), i64_0, i64_0, i64_0⟩
theorem p0_lies (w : World) : PlanLies (w.alloc (.cells ([mB 0, mA].flatMap meterC).toArray 45)) (planC p0 (some ⟨w.heap.size, 0, none⟩) 2 none 0 none 0) p0 (some ⟨w.heap.size, 0, none⟩) 2 none 0 none 0 :=
  ⟨rfl, row_lit (meters_ok 0 i64_0) (by decide), row_nil, row_nil, ⟨tiny (by decide), tiny (by decide)⟩, days0, i64_0, i64_0⟩
theorem q0_lies (w : World) : PlanLies ((w.alloc (.cells ([mB 7, mA].flatMap meterC).toArray 45)).alloc (.cells (([⟨5, ⟨false, d0, d0⟩, 0, 0⟩] : List Fee).flatMap feeC).toArray 50))
    (planC q0 (some ⟨w.heap.size, 0, none⟩) 2 (some ⟨w.heap.size + 1, 0, none⟩) 1 none 0) q0 (some ⟨w.heap.size, 0, none⟩) 2 (some ⟨w.heap.size + 1, 0, none⟩) 1 none 0 :=
  ⟨rfl, (row_lit (meters_ok 7 (by unfold I64; omega)) (by decide)).alloc _, by
    have := row_lit (n := 10) (cells := feeC) (ok := fun f => I64 f.amount ∧ winOk f.win ∧ I64 f.line ∧ I64 f.col) (hn := fun _ => rfl) (w := w.alloc (.cells ([mB 7, mA].flatMap meterC).toArray 45)) (t := 50) (xs := [⟨5, ⟨false, d0, d0⟩, 0, 0⟩]) (by intro x hx; simp at hx; subst hx; exact ⟨i64_5, days0, i64_0, i64_0⟩) (by decide)
    rw [show (w.alloc (.cells ([mB 7, mA].flatMap meterC).toArray 45)).heap.size = w.heap.size + 1 by simp] at this
    exact this, row_nil, ⟨tiny (by decide), tiny (by decide)⟩, days0, i64_3, i64_0⟩
theorem p0_q0 : ¬ noPl p0 = noPl q0 := by
  intro h
  have := congrArg (fun p : Plan => p.fees.length) h
  exact absurd this (by decide)
theorem find0 : findM p0 ⟨#[97]⟩ = 1 := by decide
theorem names0 {l : List ByteArray} (h : l.Perm (p0.meters.map fun m => m.name)) (hr : Rising l) : l = [⟨#[97]⟩, ⟨#[98]⟩] := by
  have h' : l.Perm [⟨#[98]⟩, ⟨#[97]⟩] := h
  have hl := h'.length_eq
  match l, hl with
  | [a, b], _ =>
    have ha : a ∈ ([⟨#[98]⟩, ⟨#[97]⟩] : List ByteArray) := h'.subset (List.mem_cons_self ..)
    simp only [List.mem_cons, List.not_mem_nil, or_false] at ha
    rcases ha with rfl | rfl
    · have hb := h'.cons_inv
      have hb2 := hb.eq_singleton
      simp only [List.cons.injEq, and_true] at hb2
      subst hb2
      have := hr 0 _ _ rfl rfl
      rw [ByteArray.toList_eq, ByteArray.toList_eq] at this
      exact absurd this (by decide)
    · have hb := (h'.trans (List.Perm.swap _ _ _)).cons_inv
      have hb2 := hb.eq_singleton
      rw [hb2]
end Go.Proofs.YtnhhhnngocdagaaDoor.L06
/- The laws of layer 6: TreeNames (pure part and walk). -/
namespace Go.Proofs.YtnhhhnngocdagaaDoor.L06
open Go.RowKit Go.Sort P Mm R6
theorem bl_tri : ∀ x y : List UInt8, Op.bytesLess x y = false → (Op.bytesLess y x || y == x) = true
  | [], [], _ => by simp
  | [], b :: y, h => by simp [Op.bytesLess] at h
  | a :: x, [], _ => by simp [Op.bytesLess]
  | a :: x, b :: y, h => by
    rw [Op.bytesLess] at h ⊢
    simp only [Bool.or_eq_false_iff, Bool.and_eq_false_iff, decide_eq_false_iff_not, beq_eq_false_iff_ne] at h
    obtain ⟨h1, h2⟩ := h
    by_cases e : a = b
    · subst e
      have h3 : Op.bytesLess x y = false := by
        rcases h2 with h | h
        · exact absurd rfl h
        · exact h
      have := bl_tri x y h3
      simp only [Bool.or_eq_true, beq_iff_eq] at this ⊢
      rcases this with h | h
      · left; right; simp [h]
      · right; rw [h]
    · have : b < a := by
        rw [UInt8.lt_iff_toNat_lt] at h1 ⊢
        have : a.toNat ≠ b.toNat := fun h => e (UInt8.toNat_inj.1 h)
        omega
      simp [this]
/-- How often a text stands among the first k. -/
def cnt (l : List ByteArray) (s : ByteArray) (k : Nat) : Int := ((l.take k).countP fun x => decide (x = s) : Nat)
theorem cnt_bnd (l : List ByteArray) (s : ByteArray) (k : Nat) : 0 ≤ cnt l s k ∧ cnt l s k ≤ k := by
  have h : (l.take k).countP (fun x => decide (x = s)) ≤ (l.take k).length := List.countP_le_length
  have := List.length_take_le k l
  unfold cnt
  omega
theorem cnt_next {l : List ByteArray} {s x : ByteArray} {k : Nat} (h : l[k]? = some x) : cnt l s (k + 1) = cnt l s k + (if x = s then 1 else 0) := by
  unfold cnt
  rw [List.take_add_one, h, List.countP_append]
  by_cases e : x = s <;> simp [e]
theorem cnt_all {l m : List ByteArray} {s : ByteArray} (h : l.Perm m) : cnt l s l.length = cnt m s l.length := by
  unfold cnt
  rw [List.take_length, List.take_of_length_le (by rw [h.length_eq]; exact Nat.le_refl _), h.countP_eq]
/-- The first place of a name, counted on from k. -/
def scan (name : ByteArray) : List Meter → Int → Int
  | [], _ => -1
  | m :: t, k => if m.name = name then k else scan name t (k + 1)
theorem scan_find (name : ByteArray) : ∀ (l : List Meter) (k : Int), scan name l k = (match l.findIdx? (fun m => decide (m.name = name)) with
  | some i => (i : Int) + k
  | none => -1)
  | [], k => by simp [scan]
  | m :: t, k => by
    rw [scan, List.findIdx?_cons, scan_find name t (k + 1)]
    by_cases e : m.name = name
    · simp [e]
    · simp only [e, if_false, decide_false, Bool.false_eq_true]
      cases t.findIdx? (fun m => decide (m.name = name)) with
      | none => rfl
      | some i => show (i : Int) + (k + 1) = ((i + 1 : Nat) : Int) + k; omega
theorem scan_all (p : Plan) (name : ByteArray) : scan name p.meters 0 = findM p name := by
  rw [scan_find]
  unfold findM
  cases p.meters.findIdx? (fun m => decide (m.name = name)) with
  | none => rfl
  | some i => simp
theorem scan_drop {name : ByteArray} {l : List Meter} {i : Nat} {m : Meter} (h : l[i]? = some m) : scan name (l.drop i) i = if m.name = name then (i : Int) else scan name (l.drop (i + 1)) ((i : Int) + 1) := by
  obtain ⟨hl, e⟩ := List.getElem?_eq_some_iff.1 h
  rw [List.drop_eq_getElem_cons hl, scan, e]
end Go.Proofs.YtnhhhnngocdagaaDoor.L06
/- Blocks of three cells, behind calls that leave them alone: no program is named here. -/
namespace Go.Proofs.YtnhhhnngocdagaaDoor.P
open Go.RowKit
/-- Three cells of a block, and that they may be written. -/
structure Lies3 (w : World) (k : Nat) (a b c : Value) : Prop where
  lt : k < w.heap.size
  c0 : w.cell? ⟨k, 0, none⟩ = some a
  c1 : w.cell? ⟨k, 1, none⟩ = some b
  c2 : w.cell? ⟨k, 2, none⟩ = some c
  f0 : w.frozen? ⟨k, 0, none⟩ = false
  f1 : w.frozen? ⟨k, 1, none⟩ = false
  f2 : w.frozen? ⟨k, 2, none⟩ = false
theorem Lies3.on {w W : World} {k : Nat} {a b c : Value} (h : Lies3 w k a b c) (hb : Below w.heap.size w W) : Lies3 W k a b c := by
  obtain ⟨h1, h2, h3, h4, h5, h6, h7⟩ := h
  exact ⟨Nat.lt_of_lt_of_le h1 hb.size, by rw [hb.cell h1]; exact h2, by rw [hb.cell h1]; exact h3, by rw [hb.cell h1]; exact h4,
    by rw [hb.frozen h1]; exact h5, by rw [hb.frozen h1]; exact h6, by rw [hb.frozen h1]; exact h7⟩
theorem Lies3.new {w : World} {k : Nat} {a b c : Value} {t : TypeId} (hk : w.heap.size = k) : Lies3 (w.alloc (.cells #[a, b, c] t)) k a b c := by
  subst hk
  refine ⟨by simp, ?_, ?_, ?_, ?_, ?_, ?_⟩ <;> go_simp
theorem Lies3.later {w w2 : World} {k : Nat} {a b c : Value} {t : TypeId} (hb : Below (w.alloc (.cells #[a, b, c] t)).heap.size (w.alloc (.cells #[a, b, c] t)) w2) (hk : w.heap.size = k) : Lies3 w2 k a b c := (Lies3.new hk).on hb
theorem Lies3.alloc {w : World} {k : Nat} {a b c : Value} (h : Lies3 w k a b c) (o : Obj) : Lies3 (w.alloc o) k a b c := h.on ((Below.refl _ _).alloc (Nat.le_refl _) _)
theorem Lies3.drewN {w : World} {k : Nat} {a b c : Value} (h : Lies3 w k a b c) (n : Nat) : Lies3 (w.drewN n) k a b c := by
  refine h.on ⟨rfl, rfl, rfl, Nat.le_refl _, fun _ _ => rfl⟩
theorem Lies3.set0 {w : World} {k : Nat} {a b c : Value} (h : Lies3 w k a b c) (v : Value) : Lies3 (w.setCell ⟨k, 0, none⟩ v) k v b c := by
  obtain ⟨h1, h2, h3, h4, h5, h6, h7⟩ := h
  refine ⟨?_, ?_, ?_, ?_, ?_, ?_, ?_⟩ <;> go_simp
theorem Lies3.set1 {w : World} {k : Nat} {a b c : Value} (h : Lies3 w k a b c) (v : Value) : Lies3 (w.setCell ⟨k, 1, none⟩ v) k a v c := by
  obtain ⟨h1, h2, h3, h4, h5, h6, h7⟩ := h
  refine ⟨?_, ?_, ?_, ?_, ?_, ?_, ?_⟩ <;> go_simp
theorem Lies3.set2 {w : World} {k : Nat} {a b c : Value} (h : Lies3 w k a b c) (v : Value) : Lies3 (w.setCell ⟨k, 2, none⟩ v) k a b v := by
  obtain ⟨h1, h2, h3, h4, h5, h6, h7⟩ := h
  refine ⟨?_, ?_, ?_, ?_, ?_, ?_, ?_⟩ <;> go_simp
/-- A store into another block. -/
theorem Lies3.other {w : World} {k : Nat} {a b c : Value} (h : Lies3 w k a b c) {j o : Nat} (hj : k ≠ j) (v : Value) : Lies3 (w.setCell ⟨j, o, none⟩ v) k a b c := by
  obtain ⟨h1, h2, h3, h4, h5, h6, h7⟩ := h
  have e := Below.heap_setCell w ⟨j, o, none⟩ v k hj
  refine ⟨?_, ?_, ?_, ?_, ?_, ?_, ?_⟩
  · simpa using h1
  · rw [World.cell?_of_block (w := w) e]; exact h2
  · rw [World.cell?_of_block (w := w) e]; exact h3
  · rw [World.cell?_of_block (w := w) e]; exact h4
  · rw [World.frozen?_of_block (w := w) e]; exact h5
  · rw [World.frozen?_of_block (w := w) e]; exact h6
  · rw [World.frozen?_of_block (w := w) e]; exact h7
end Go.Proofs.YtnhhhnngocdagaaDoor.P

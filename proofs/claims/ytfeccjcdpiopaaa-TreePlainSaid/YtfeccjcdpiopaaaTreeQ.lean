/- Plans without places, and their rows of texts, as plain data: two rows are the same just if the plans are, but for places. -/
import Derived.Test.YtfeccjcdpiopaaaRef6g
namespace Go.Proofs.Ytfeccjcdpiopaaa.R6
open Go.RowKit Mm P

def nM (m : Meter) : Meter := { m with line := 0, col := 0 }
def nF (f : Fee) : Fee := { f with line := 0, col := 0 }
def nC (c : Charge) : Charge := { c with line := 0, col := 0 }
/-- A plan without places. -/
def noPl (p : Plan) : Plan := { p with line := 0, col := 0, meters := p.meters.map nM, fees := p.fees.map nF, charges := p.charges.map nC }
/-- What a plan in memory is: numbers of 64 bits. -/
structure PlanOk (p : Plan) : Prop where
  days : dayOk p.a ∧ dayOk p.b
  meters : ∀ m ∈ p.meters, I64 m.max
  fees : ∀ f ∈ p.fees, I64 f.amount ∧ winOk f.win
  charges : ∀ c ∈ p.charges, winOk c.win ∧ (I64 c.allowance ∧ I64 c.block ∧ I64 c.kind ∧ I64 c.mode) ∧ (∀ t ∈ c.tiers, I64 t.upto ∧ I64 t.rate) ∧ ∀ a ∈ c.adjusts, I64 a.kind ∧ I64 a.num ∧ I64 a.mode
theorem row_mem {α : Type} {T : Ty α} {w : World} {ao : Option Addr} {len cap : Nat} {xs : List α} (h : Row T w ao len cap xs) {x : α} (hx : x ∈ xs) : ∃ cs, T.lies w cs x := by
  obtain ⟨j, hj, e⟩ := List.getElem_of_mem hx
  obtain ⟨_, _, cs, _, _, h3, _⟩ := h.at (j := j) (x := x) (by rw [List.getElem?_eq_getElem hj, e])
  exact ⟨cs, h3⟩
theorem ok_of {w : World} {cs : List Value} {p : Plan} {ma : Option Addr} {mc : Nat} {fa : Option Addr} {fc : Nat} {ca : Option Addr} {cc : Nat} (h : PlanLies w cs p ma mc fa fc ca cc) : PlanOk p := by
  refine ⟨h.days, fun m hm => ?_, fun f hf => ?_, fun c hc => ?_⟩
  · obtain ⟨_, _, _, _, k, _⟩ := row_mem h.meters hm
    exact k
  · obtain ⟨_, _, k1, k2, _⟩ := row_mem h.fees hf
    exact ⟨k1, k2⟩
  · obtain ⟨_, _, _, _, _, k⟩ := row_mem h.charges hc
    refine ⟨k.win, ⟨k.nums.1, k.nums.2.1, k.nums.2.2.1, k.nums.2.2.2.1⟩, fun t ht => ?_, fun a ha => ?_⟩
    · obtain ⟨_, _, k1⟩ := row_mem k.tiers ht
      exact k1
    · obtain ⟨_, _, k1⟩ := row_mem k.adjusts ha
      exact k1
theorem row_noPl (p : Plan) : row (noPl p) = row p := by
  unfold row noPl rHead
  simp only [List.flatMap_map, List.length_map]
  rfl
theorem yes_no : yes ≠ no := by
  intro h
  have := congrArg ByteArray.size h
  exact absurd this (by decide)
theorem rW_inj {a b : Win} (ha : winOk a) (hb : winOk b) (h : rW a = rW b) : a = b := by
  unfold rW at h
  simp only [List.cons.injEq, and_true] at h
  obtain ⟨h0, h1, h2, h3, h4, h5, h6⟩ := h
  obtain ⟨⟨x1, x2, x3⟩, x4, x5, x6⟩ := ha
  obtain ⟨⟨y1, y2, y3⟩, y4, y5, y6⟩ := hb
  have k0 : a.has = b.has := by
    rcases Bool.eq_false_or_eq_true a.has with u | u <;> rcases Bool.eq_false_or_eq_true b.has with v | v <;> rw [u, v] at h0 ⊢ <;> simp at h0
    · exact absurd h0 yes_no
    · exact absurd h0.symm yes_no
  obtain ⟨_, ⟨_, _, _⟩, ⟨_, _, _⟩⟩ := a
  obtain ⟨_, ⟨_, _, _⟩, ⟨_, _, _⟩⟩ := b
  obtain rfl := k0
  obtain rfl := t8_inj x1 y1 h1
  obtain rfl := t8_inj x2 y2 h2
  obtain rfl := t8_inj x3 y3 h3
  obtain rfl := t8_inj x4 y4 h4
  obtain rfl := t8_inj x5 y5 h5
  obtain rfl := t8_inj x6 y6 h6
  rfl
theorem flat_inj {α β : Type} {f : α → List β} {n : Nat} (hn : ∀ x, (f x).length = n) : ∀ (xs ys : List α) (r s : List β), xs.length = ys.length → xs.flatMap f ++ r = ys.flatMap f ++ s → xs.map f = ys.map f ∧ r = s
  | [], [], _, _, _, h => ⟨rfl, h⟩
  | x :: xs, y :: ys, r, s, hl, h => by
    rw [List.flatMap_cons, List.flatMap_cons, List.append_assoc, List.append_assoc] at h
    obtain ⟨h1, h2⟩ := List.append_inj h (by rw [hn, hn])
    obtain ⟨h3, h4⟩ := flat_inj hn xs ys r s (by simpa using hl) h2
    exact ⟨by rw [List.map_cons, List.map_cons, h1, h3], h4⟩
theorem map_lift {α β γ : Type} {f : α → β} {g : α → γ} {ok : α → Prop} (hfg : ∀ x y, ok x → ok y → f x = f y → g x = g y) : ∀ (xs ys : List α), (∀ x ∈ xs, ok x) → (∀ y ∈ ys, ok y) → xs.map f = ys.map f → xs.map g = ys.map g
  | [], [], _, _, _ => rfl
  | [], _ :: _, _, _, h => by cases h
  | _ :: _, [], _, _, h => by cases h
  | x :: xs, y :: ys, hx, hy, h => by
    rw [List.map_cons, List.map_cons, List.cons.injEq] at h
    rw [List.map_cons, List.map_cons, hfg x y (hx _ (.head _)) (hy _ (.head _)) h.1, map_lift hfg xs ys (fun z hz => hx z (.tail _ hz)) (fun z hz => hy z (.tail _ hz)) h.2]
theorem map_self {α : Type} {xs ys : List α} (h : xs.map (fun x => x) = ys.map (fun x => x)) : xs = ys := by simpa using h
theorem len_inj {a b : Nat} (ha : a ≤ 1000) (hb : b ≤ 1000) (h : t8 (a : Int) = t8 (b : Int)) : a = b := by
  have := t8_inj (n := (a : Int)) (m := (b : Int)) (by unfold I64; omega) (by unfold I64; omega) h
  omega
theorem rM_inj (m n : Meter) (hm : I64 m.max) (hn : I64 n.max) (h : rM m = rM n) : nM m = nM n := by
  unfold rM at h
  simp only [List.cons.injEq, and_true] at h
  have := t8_inj hm hn h.2.2
  unfold nM
  rw [h.1, h.2.1, this]
theorem rF_inj (m n : Fee) (hm : I64 m.amount ∧ winOk m.win) (hn : I64 n.amount ∧ winOk n.win) (h : rF m = rF n) : nF m = nF n := by
  unfold rF at h
  rw [List.cons.injEq] at h
  have h1 := t8_inj hm.1 hn.1 h.1
  have h2 := rW_inj hm.2 hn.2 h.2
  unfold nF
  rw [h1, h2]
def chOk (c : Charge) : Prop := (winOk c.win ∧ (I64 c.allowance ∧ I64 c.block ∧ I64 c.kind ∧ I64 c.mode) ∧ (∀ t ∈ c.tiers, I64 t.upto ∧ I64 t.rate) ∧ ∀ a ∈ c.adjusts, I64 a.kind ∧ I64 a.num ∧ I64 a.mode) ∧ c.tiers.length ≤ 40 ∧ c.adjusts.length ≤ 40
theorem rC_inj {c d : Charge} {r s : List ByteArray} (hc : chOk c) (hd : chOk d) (h : rC c ++ r = rC d ++ s) : nC c = nC d ∧ r = s := by
  obtain ⟨⟨c1, ⟨c2, c3, c4, c5⟩, c6, c7⟩, c8, c9⟩ := hc
  obtain ⟨⟨d1, ⟨d2, d3, d4, d5⟩, d6, d7⟩, d8, d9⟩ := hd
  unfold rC at h
  rw [List.append_assoc, List.append_assoc, List.append_assoc, List.append_assoc] at h
  obtain ⟨h1, h2⟩ := List.append_inj h rfl
  unfold rCh at h1
  rw [List.cons_append, List.cons_append, List.cons.injEq] at h1
  obtain ⟨h3, h4⟩ := h1
  obtain ⟨h5, h6⟩ := List.append_inj h4 rfl
  have w := rW_inj c1 d1 h5
  simp only [List.cons.injEq, and_true] at h6
  obtain ⟨e1, e2, e3, e4, e5, e6⟩ := h6
  have l1 := len_inj (by omega) (by omega) e5
  have l2 := len_inj (by omega) (by omega) e6
  obtain ⟨m1, h7⟩ := flat_inj (f := rT) (n := 2) (fun _ => rfl) _ _ _ _ l1 h2
  obtain ⟨m2, h8⟩ := flat_inj (f := rA) (n := 3) (fun _ => rfl) _ _ _ _ l2 h7
  have t1 : c.tiers = d.tiers := map_self (map_lift (ok := fun t => I64 t.upto ∧ I64 t.rate) (fun x y hx hy e => by
    unfold rT at e
    simp only [List.cons.injEq, and_true] at e
    have a := t8_inj hx.1 hy.1 e.1
    have b := t8_inj hx.2 hy.2 e.2
    obtain ⟨_, _⟩ := x
    obtain ⟨_, _⟩ := y
    simp only at a b
    rw [a, b]) _ _ c6 d6 m1)
  have t2 : c.adjusts = d.adjusts := map_self (map_lift (ok := fun a => I64 a.kind ∧ I64 a.num ∧ I64 a.mode) (fun x y hx hy e => by
    unfold rA at e
    simp only [List.cons.injEq, and_true] at e
    have a := t8_inj hx.1 hy.1 e.1
    have b := t8_inj hx.2.1 hy.2.1 e.2.1
    have c := t8_inj hx.2.2 hy.2.2 e.2.2
    obtain ⟨_, _, _⟩ := x
    obtain ⟨_, _, _⟩ := y
    simp only at a b c
    rw [a, b, c]) _ _ c7 d7 m2)
  refine ⟨?_, h8⟩
  have k1 := t8_inj c2 d2 e1
  have k2 := t8_inj c3 d3 e2
  have k3 := t8_inj c4 d4 e3
  have k4 := t8_inj c5 d5 e4
  unfold nC
  rw [h3, w, k1, k2, k3, k4, t1, t2]
theorem charges_inj (xs : List Charge) : ∀ (ys : List Charge), (∀ c ∈ xs, chOk c) → (∀ c ∈ ys, chOk c) → xs.length = ys.length → xs.flatMap rC = ys.flatMap rC → xs.map nC = ys.map nC := by
  induction xs with
  | nil =>
    intro ys _ _ hl _
    obtain rfl : ys = [] := List.eq_nil_of_length_eq_zero hl.symm
    rfl
  | cons x r ih =>
    intro ys hx hy hl h
    cases ys with
    | nil => cases hl
    | cons y s =>
      have e1 : (x :: r).flatMap rC = rC x ++ r.flatMap rC := List.flatMap_cons
      have e2 : (y :: s).flatMap rC = rC y ++ s.flatMap rC := List.flatMap_cons
      rw [e1, e2] at h
      have k := rC_inj (hx x (List.mem_cons_self ..)) (hy y (List.mem_cons_self ..)) h
      have k2 := ih s (fun z hz => hx z (List.mem_cons_of_mem _ hz)) (fun z hz => hy z (List.mem_cons_of_mem _ hz)) (by simpa using hl) k.2
      rw [List.map_cons, List.map_cons, k.1, k2]
theorem row_inj {p q : Plan} (op : PlanOk p) (oq : PlanOk q) (sp : Small p) (sq : Small q) : row p = row q ↔ noPl p = noPl q := by
  constructor
  · intro h
    unfold row at h
    rw [List.append_assoc, List.append_assoc, List.append_assoc, List.append_assoc] at h
    obtain ⟨h1, h2⟩ := List.append_inj h rfl
    unfold rHead at h1
    rw [List.append_assoc, List.append_assoc] at h1
    obtain ⟨g1, g2⟩ := List.append_inj h1 rfl
    obtain ⟨g3, g4⟩ := List.append_inj g2 rfl
    simp only [List.cons.injEq, and_true] at g1 g4
    have w := rW_inj (a := ⟨false, p.a, p.b⟩) (b := ⟨false, q.a, q.b⟩) op.days oq.days g3
    have b1 := sp.meters; have b2 := sp.fees; have b3 := sp.charges
    have b4 := sq.meters; have b5 := sq.fees; have b6 := sq.charges
    have l1 := len_inj (by omega) (by omega) g4.1
    have l2 := len_inj (by omega) (by omega) g4.2.1
    have l3 := len_inj (by omega) (by omega) g4.2.2
    obtain ⟨m1, h3⟩ := flat_inj (f := rM) (n := 3) (fun _ => rfl) _ _ _ _ l1 h2
    obtain ⟨m2, h4⟩ := flat_inj (f := rF) (n := 8) (fun _ => rfl) _ _ _ _ l2 h3
    have t1 := map_lift (g := nM) rM_inj _ _ op.meters oq.meters m1
    have t2 := map_lift (g := nF) rF_inj _ _ op.fees oq.fees m2
    have t3 := charges_inj _ _ (fun c hc => ⟨op.charges c hc, sp.parts c hc⟩) (fun c hc => ⟨oq.charges c hc, sq.parts c hc⟩) l3 h4
    simp only [Win.mk.injEq, true_and] at w
    unfold noPl
    rw [g1.1, g1.2, w.1, w.2, t1, t2, t3]
  · intro h
    rw [← row_noPl p, ← row_noPl q, h]
end Go.Proofs.Ytfeccjcdpiopaaa.R6

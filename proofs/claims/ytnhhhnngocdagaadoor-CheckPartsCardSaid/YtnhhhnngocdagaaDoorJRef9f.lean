/- What the document's answers for layer 2 (poundageref02) come to. -/
import Derived.Test.YtnhhhnngocdagaaDoorJRef1b
import Derived.Deep.CutBlock
import Derived.Deep.CutRange
import Derived.Deep.DeepCutAuto
import Derived.Deep.LoopGhost
import Derived.LoopN
import Derived.Deep.RegionHeld3
import Derived.Test.YtnhhhnngocdagaaDoorJChkR
import Derived.Deep.Onto
namespace Go.Proofs.YtnhhhnngocdagaaDoor.R2
open Go.RowKit P Ex R1
/-- A wide number's parts, written out. -/
theorem W_parts (v : Int) : W v = .agg #[.bool (decide (v < 0)), .int .u64 (hiN v.natAbs), .int .u64 (loN v.natAbs)] := rfl
/-- A block of three cells just laid: what they hold, and that it may be written. -/
theorem laid3 (w : World) (a b c : Value) (t : TypeId) :
    (w.alloc (.cells #[a, b, c] t)).cell? ⟨w.heap.size, 0, none⟩ = some a ∧ (w.alloc (.cells #[a, b, c] t)).cell? ⟨w.heap.size, 1, none⟩ = some b ∧ (w.alloc (.cells #[a, b, c] t)).cell? ⟨w.heap.size, 2, none⟩ = some c ∧
    (w.alloc (.cells #[a, b, c] t)).frozen? ⟨w.heap.size, 0, none⟩ = false ∧ (w.alloc (.cells #[a, b, c] t)).frozen? ⟨w.heap.size, 1, none⟩ = false ∧ (w.alloc (.cells #[a, b, c] t)).frozen? ⟨w.heap.size, 2, none⟩ = false := by
  refine ⟨?_, ?_, ?_, ?_, ?_, ?_⟩ <;> go_simp
/-- Behind a call: below what was there when w was, nothing has turned. -/
theorem below_on {w W w1 : World} (h : Below w.heap.size w W) (hb : Below W.heap.size W w1) : Below w.heap.size w w1 := below_via h hb (Below.size h)
theorem alloc_on {w W : World} (h : Below w.heap.size w W) (o : Obj) : Below w.heap.size w (W.alloc o) := h.alloc (Below.size h) o
/-- Three cells of a block, and that they may be written. -/
structure Lies3 (w : World) (k : Nat) (a b c : Value) : Prop where
  lt : k < w.heap.size
  c0 : w.cell? ⟨k, 0, none⟩ = some a
  c1 : w.cell? ⟨k, 1, none⟩ = some b
  c2 : w.cell? ⟨k, 2, none⟩ = some c
  f0 : w.frozen? ⟨k, 0, none⟩ = false
  f1 : w.frozen? ⟨k, 1, none⟩ = false
  f2 : w.frozen? ⟨k, 2, none⟩ = false
theorem Lies3.on {w W : World} {k : Nat} {a b c : Value} (h : Lies3 w k a b c) (hb : Below w.heap.size w W) : Lies3 W k a b c := by
  obtain ⟨hc, hf⟩ := bcell hb
  exact ⟨Nat.lt_of_lt_of_le h.lt (Below.size hb), by rw [hc _ _ h.lt]; exact h.c0, by rw [hc _ _ h.lt]; exact h.c1, by rw [hc _ _ h.lt]; exact h.c2,
    by rw [hf _ _ h.lt]; exact h.f0, by rw [hf _ _ h.lt]; exact h.f1, by rw [hf _ _ h.lt]; exact h.f2⟩
theorem Lies3.new {w : World} {k : Nat} {a b c : Value} {t : TypeId} (hk : w.heap.size = k) : Lies3 (w.alloc (.cells #[a, b, c] t)) k a b c := by
  subst hk
  obtain ⟨h0, h1, h2, h3, h4, h5⟩ := laid3 w a b c t
  exact ⟨by simp, h0, h1, h2, h3, h4, h5⟩
theorem Lies3.later {w w2 : World} {k : Nat} {a b c : Value} {t : TypeId} (hb : Below (w.alloc (.cells #[a, b, c] t)).heap.size (w.alloc (.cells #[a, b, c] t)) w2) (hk : w.heap.size = k) : Lies3 w2 k a b c := (Lies3.new hk).on hb
theorem Lies3.drew {w : World} {k : Nat} {a b c : Value} (h : Lies3 w k a b c) : Lies3 w.drew k a b c := ⟨h.lt, h.c0, h.c1, h.c2, h.f0, h.f1, h.f2⟩
theorem Lies3.later_drew {w w2 : World} {k : Nat} {a b c : Value} {t : TypeId} (hb : Below (w.alloc (.cells #[a, b, c] t)).drew.heap.size (w.alloc (.cells #[a, b, c] t)).drew w2) (hk : w.heap.size = k) : Lies3 w2 k a b c := (Lies3.new hk).drew.on hb
theorem Lies3.set {w : World} {k : Nat} {a b c : Value} (h : Lies3 w k a b c) (a' b' c' : Value) :
    Lies3 (((w.setCell ⟨k, 0, none⟩ a').setCell ⟨k, 1, none⟩ b').setCell ⟨k, 2, none⟩ c') k a' b' c' := by
  obtain ⟨h1, h2, h3, h4, h5, h6, h7⟩ := h
  refine ⟨?_, ?_, ?_, ?_, ?_, ?_, ?_⟩ <;> go_simp
/-- Two wide parameters in their boxes. -/
theorem boxed2 (w : World) (a b c a' b' c' : Value) (t : TypeId) : ∃ w1, (w.alloc (.cells #[a, b, c] t)).alloc (.cells #[a', b', c'] t) = w1 ∧ w1.heap.size = w.heap.size + 1 + 1 ∧ Below w.heap.size w w1 ∧
    w1.cell? ⟨w.heap.size, 0, none⟩ = some a ∧ w1.cell? ⟨w.heap.size, 1, none⟩ = some b ∧ w1.cell? ⟨w.heap.size, 2, none⟩ = some c ∧
    w1.cell? ⟨w.heap.size + 1, 0, none⟩ = some a' ∧ w1.cell? ⟨w.heap.size + 1, 1, none⟩ = some b' ∧ w1.cell? ⟨w.heap.size + 1, 2, none⟩ = some c' := by
  refine ⟨_, rfl, by simp, ((Below.refl _ _).alloc (Nat.le_refl _) _).alloc (by simp) _, ?_, ?_, ?_, ?_, ?_, ?_⟩ <;> go_simp
/-- A wide parameter in its box. -/
theorem boxed1 (w : World) (a b c : Value) (t : TypeId) : ∃ w1, w.alloc (.cells #[a, b, c] t) = w1 ∧ w1.heap.size = w.heap.size + 1 ∧ Below w.heap.size w w1 ∧ Lies3 w1 w.heap.size a b c := by
  exact ⟨_, rfl, by simp, (Below.refl _ _).alloc (Nat.le_refl _) _, Lies3.new rfl⟩
end Go.Proofs.YtnhhhnngocdagaaDoor.R2
/- The document's answer for layer 2: the greatest number that, times c, isn't above a wide one. -/
namespace Go.Proofs.YtnhhhnngocdagaaDoor.R2
open Go.RowKit P Ex R1
/-- What the search knows: l is not too great; l and 2^j is, or is beyond 64 bits. -/
structure Seek (p c l : Int) (j : Nat) : Prop where
  lo : -9223372036854775808 ≤ l
  hi : l + 2 ^ j ≤ 9223372036854775808
  at' : l * c ≤ p
  top : l + 2 ^ j = 9223372036854775808 ∨ p < (l + 2 ^ j) * c
  j64 : j ≤ 64
theorem Seek.start {p c : Int} (h : -9223372036854775808 * c ≤ p) : Seek p c (-9223372036854775808) 64 := ⟨by omega, by decide, h, Or.inl (by decide), by omega⟩
theorem two_pow_succ (i : Nat) : (2 : Int) ^ (i + 1) = 2 ^ i + 2 ^ i := by rw [Int.pow_succ]; omega
theorem Seek.up {p c l : Int} {i : Nat} (s : Seek p c l (i + 1)) (h : (l + 2 ^ i) * c ≤ p) : Seek p c (l + 2 ^ i) i := by
  have h2 := two_pow_succ i
  have hp : (0 : Int) < 2 ^ i := Int.pow_pos (by omega)
  have a := s.lo; have b := s.hi; have t := s.top; have j := s.j64
  have e : l + 2 ^ i + 2 ^ i = l + 2 ^ (i + 1) := by omega
  exact ⟨by omega, by omega, h, by rw [e]; exact t, by omega⟩
theorem Seek.stay {p c l : Int} {i : Nat} (s : Seek p c l (i + 1)) (h : ¬ (l + 2 ^ i) * c ≤ p) : Seek p c l i := by
  have h2 := two_pow_succ i
  have hp : (0 : Int) < 2 ^ i := Int.pow_pos (by omega)
  have a := s.lo; have b := s.hi; have t := s.at'; have j := s.j64
  exact ⟨a, by omega, t, Or.inr (by omega), by omega⟩
theorem Seek.next {p c l : Int} {i : Nat} (s : Seek p c l (i + 1)) : I64 (l + 2 ^ i) ∧ l < l + 2 ^ i := by
  have h2 := two_pow_succ i
  have hp : (0 : Int) < 2 ^ i := Int.pow_pos (by omega)
  have a := s.lo; have b := s.hi
  exact ⟨by unfold I64; omega, by omega⟩
theorem Seek.i64 {p c l : Int} {i : Nat} (s : Seek p c l i) : I64 l := by
  have hp : (0 : Int) < 2 ^ i := Int.pow_pos (by omega)
  have a := s.lo; have b := s.hi
  unfold I64; omega
theorem step_wrap {p c l : Int} {i : Nat} (s : Seek p c l (i + 1)) : wrap64 (IntKind.u64.wrap (IntKind.u64.wrap l + IntKind.u64.wrap (2 ^ i))) = l + 2 ^ i := by
  have h := s.next.1
  generalize (2 : Int) ^ i = q at *
  rw [u64_mod, u64_mod, u64_mod]
  unfold I64 at h
  unfold wrap64
  omega
theorem Seek.done {p c l : Int} (hc : 0 < c) (h : -9223372036854775808 * c ≤ p) (s : Seek p c l 0) : flo p c = l ∧ fok p c = true := by
  have b := s.hi
  have t := s.top
  exact flo_end hc h (by simp at b; omega) s.at' (by simpa using t)
end Go.Proofs.YtnhhhnngocdagaaDoor.R2
/- The document's answers for layer 9 (poundageref09): Most. -/
namespace Go.Proofs.YtnhhhnngocdagaaDoor.R9
open Go.RowKit Go.Sort P Mm Md R6 L06
theorem top_i64 {ts : List Tier} (h : ∀ t ∈ ts, 0 ≤ t.rate ∧ t.rate ≤ 1000000000000) (i : Nat) : 0 ≤ topRate (ts.take i) ∧ topRate (ts.take i) ≤ 1000000000000 := by
  have : ∀ (l : List Tier) (r : Int), (∀ t ∈ l, 0 ≤ t.rate ∧ t.rate ≤ 1000000000000) → 0 ≤ r ∧ r ≤ 1000000000000 → 0 ≤ l.foldl (fun r t => max r t.rate) r ∧ l.foldl (fun r t => max r t.rate) r ≤ 1000000000000 := by
    intro l
    induction l with
    | nil => intro r _ h; exact h
    | cons t q ih =>
      intro r h1 h2
      have := h1 t (List.mem_cons_self ..)
      exact ih _ (fun x hx => h1 x (List.mem_cons_of_mem _ hx)) (by show 0 ≤ max r t.rate ∧ max r t.rate ≤ _; omega)
  exact this _ 0 (fun t ht => h t (List.mem_of_mem_take ht)) (by omega)
theorem rates_of {c : Charge} (g : ChOk c) : ∀ t ∈ c.tiers, 0 ≤ t.rate ∧ t.rate ≤ 1000000000000 := by
  obtain ⟨ts, r, e, h, hr⟩ := g.tiers
  rw [e]
  intro t ht
  rcases List.mem_append.1 ht with ht | ht
  · exact (h t ht).rate
  · obtain rfl : t = ⟨0, r⟩ := by simpa using ht
    exact hr
theorem lim_t {n : Int} {b : Bool} (hb : b = true) (hn : n < maxBound) : lim n b = some n := by
  unfold lim; rw [if_pos ⟨hb, hn⟩]
theorem lim_f {n : Int} {b : Bool} (hb : b = false) : lim n b = none := by
  unfold lim; rw [if_neg (by rw [hb]; simp)]
theorem lim_g {n : Int} {b : Bool} (hn : maxBound ≤ n) : lim n b = none := by
  unfold lim; rw [if_neg (fun h => by have := h.2; omega)]
theorem ret_m {o : Option Int} {n : Int} {k : Bool} (h : n = o.getD 0) (h2 : k = o.isSome) : (Ending.returned (.tuple #[.int .i64 n, .bool k]) : Ending) = .returned (.tuple #[.int .i64 (o.getD 0), .bool o.isSome]) := by rw [h, h2]
theorem ret_n {o : Option Int} (h : o = none) : (Ending.returned (.tuple #[.int .i64 0, .bool false]) : Ending) = .returned (.tuple #[.int .i64 (o.getD 0), .bool o.isSome]) := by rw [h]; rfl
theorem ret_v {o : Option Int} {n : Int} (h : o = some n) : (Ending.returned (.tuple #[.int .i64 n, .bool true]) : Ending) = .returned (.tuple #[.int .i64 (o.getD 0), .bool o.isSome]) := by rw [h]; rfl
theorem max_if (a b : Int) : (if a < b then b else a) = max a b := by split <;> omega
theorem i64_mul (p c m : Int) : I64 (mdn p c m) := by
  unfold mdn; split
  · exact i64_cut _
  · unfold I64; omega
end Go.Proofs.YtnhhhnngocdagaaDoor.R9
/- The document's answers for layer 9 (poundageref09): Bound. -/
namespace Go.Proofs.YtnhhhnngocdagaaDoor.R9
open Go.RowKit Go.Sort P Mm Md R6 L06
/-- What a plan's charges all have: a meter, a block, few parts. -/
structure Chs (p : Plan) : Prop where
  gd : Gd p
  cnt : p.meters.length ≤ 20000 ∧ p.fees.length ≤ 20000 ∧ p.charges.length ≤ 20000
  parts : ∀ c ∈ p.charges, c.tiers.length ≤ 100000 ∧ c.adjusts.length ≤ 100000
  named : ∀ c ∈ p.charges, ∃ i, meterIx p.meters c.meter = some i
  block : ∀ c ∈ p.charges, c.block ≠ 0
theorem go_bind {ms : List Meter} {cs : List Charge} {i k : Nat} {c : Charge} {L : List Int} {x : Int} (h : cs[i]? = some c) (e : meterIx ms c.meter = some k) (hx : mostOf c (ms.getD k default).max = some x) :
    ((mosts ms (cs.drop i)).bind fun l => sumUp 0 (L ++ l)) = (mosts ms (cs.drop (i + 1))).bind fun l => sumUp 0 ((L ++ [x]) ++ l) := by
  rw [mosts_some h e, hx]
  show (((mosts ms (cs.drop (i + 1))).map (x :: ·)).bind fun l => sumUp 0 (L ++ l)) = _
  cases mosts ms (cs.drop (i + 1)) with
  | none => rfl
  | some l => show sumUp 0 (L ++ x :: l) = sumUp 0 ((L ++ [x]) ++ l); rw [List.append_assoc]; rfl
theorem go_none {ms : List Meter} {cs : List Charge} {i k : Nat} {c : Charge} {L : List Int} (h : cs[i]? = some c) (e : meterIx ms c.meter = some k) (hx : mostOf c (ms.getD k default).max = none) :
    ((mosts ms (cs.drop i)).bind fun l => sumUp 0 (L ++ l)) = none := by
  rw [mosts_some h e, hx]; rfl
theorem ints1 (x : Int) : ints [x] = [.int .i64 x] := rfl
def I60 (x : Int) : Prop := 0 ≤ x ∧ x ≤ 9223372036854775807
theorem most_i60 {c : Charge} {mx x : Int} (g : ChOk c) (h : mostOf c mx = some x) (hb : x ≤ 9223372036854775807) : I60 x := ⟨mostOf_nn (fun a ha => by rcases g.adjs a ha with k | k <;> exact k.2.1.1) g.block.1 h, hb⟩
theorem adjAll_lt : ∀ {l : List Adj} {n k : Int}, n < maxBound → adjAll n l = some k → k < maxBound
  | [], n, k, hn, e => by
    unfold adjAll at e
    obtain rfl := Option.some.inj e
    exact hn
  | a :: r, n, k, hn, e => by
    unfold adjAll at e
    obtain ⟨m, hm, e2⟩ := Option.bind_eq_some_iff.1 e
    refine adjAll_lt ?_ e2
    unfold adjStep at hm
    split at hm
    · exact (lim_some hm).2.2 ▸ (lim_some hm).2.1
    · split at hm
      · exact (lim_some hm).2.2 ▸ (lim_some hm).2.1
      · split at hm
        · exact (lim_some hm).2.2 ▸ (lim_some hm).2.1
        · split at hm <;> exact (lim_some hm).2.2 ▸ (lim_some hm).2.1
theorem mostOf_lt {c : Charge} {mx k : Int} (h : mostOf c mx = some k) : k < maxBound := by
  unfold mostOf at h
  obtain ⟨n, hn, e⟩ := Option.bind_eq_some_iff.1 h
  exact adjAll_lt ((lim_some hn).2.2 ▸ (lim_some hn).2.1) e
theorem i60_app {L : List Int} {x : Int} (h : ∀ y ∈ L, I60 y) (hx : I60 x) : ∀ y ∈ L ++ [x], I60 y := by
  intro y hy
  rcases List.mem_append.1 hy with hy | hy
  · exact h y hy
  · obtain rfl : y = x := by simpa using hy
    exact hx
end Go.Proofs.YtnhhhnngocdagaaDoor.R9
/- The document's answers for layer 9 (poundageref09): Plan. -/
namespace Go.Proofs.YtnhhhnngocdagaaDoor.P
open Go.RowKit Mm
def zC (p : Plan) : Int × Int × Int := if boundOf p = none then (6, p.line, p.col) else (0, 0, 0)
def zF9 (p : Plan) : Int × Int × Int := (firstE (chE p) (fun c => (c.line, c.col)) 0 p.charges).getD (zC p)
def zM (p : Plan) : Int × Int × Int := (firstE (feeE p) (fun f => (f.line, f.col)) 0 p.fees).getD (zF9 p)
theorem wrong_getD (p : Plan) : wrongOf p = if headE p = 0 then (firstE (meterE p) (fun m => (m.line, m.col)) 0 p.meters).getD (zM p) else (headE p, p.line, p.col) := by
  unfold wrongOf zM zF9 zC
  by_cases h : headE p = 0
  · rw [if_pos h, if_pos h]
    cases firstE (meterE p) (fun m => (m.line, m.col)) 0 p.meters with
    | some e => rfl
    | none =>
      show _ = (firstE (feeE p) (fun f => (f.line, f.col)) 0 p.fees).getD _
      cases firstE (feeE p) (fun f => (f.line, f.col)) 0 p.fees with
      | some e => rfl
      | none =>
        show _ = (firstE (chE p) (fun c => (c.line, c.col)) 0 p.charges).getD _
        cases firstE (chE p) (fun c => (c.line, c.col)) 0 p.charges <;> rfl
  · rw [if_neg h, if_neg h]
theorem num_range {d : Day} (h : DayOk d) : 0 ≤ dn d ∧ dn d ≤ 3652058 := by
  have := num_bound h
  unfold dn
  omega
end Go.Proofs.YtnhhhnngocdagaaDoor.P
namespace Go.Proofs.YtnhhhnngocdagaaDoor.R9
open Go.RowKit Go.Sort P Mm Md R6 L06
theorem ret_t {R : Int × Int × Int} {a b c : Int} (h : R = (a, b, c)) : (Ending.returned (.tuple #[.int .i64 a, .int .i64 b, .int .i64 c]) : Ending) = .returned (.tuple #[.int .i64 R.1, .int .i64 R.2.1, .int .i64 R.2.2]) := by rw [h]
/-- What is told of a plan, where it isn't of its days. -/
structure Pl9 (p : Plan) : Prop where
  gd : Gd p
  cnt : p.meters.length ≤ 20000 ∧ p.fees.length ≤ 20000 ∧ p.charges.length ≤ 20000
  parts : ∀ c ∈ p.charges, c.tiers.length ≤ 100000 ∧ c.adjusts.length ≤ 100000
theorem chs_of {p : Plan} (h : Pl9 p) (e : firstE (chE p) (fun c => (c.line, c.col)) 0 p.charges = none) : Chs p := by
  rw [firstE_none] at e
  have key : ∀ c ∈ p.charges, (∃ i, meterIx p.meters c.meter = some i) ∧ c.block ≠ 0 := by
    intro c hc
    obtain ⟨j, hj, ej⟩ := List.getElem_of_mem hc
    have := e j c (by rw [List.getElem?_eq_getElem hj, ej])
    unfold chE at this
    split at this
    · cases this
    · split at this
      · cases this
      · rename_i h2
        refine ⟨?_, fun h0 => h2 (.inr (.inr h0))⟩
        cases hm : meterIx p.meters c.meter with
        | none => exact absurd (.inl hm) h2
        | some i => exact ⟨i, rfl⟩
  exact ⟨h.gd, h.cnt, h.parts, fun c hc => (key c hc).1, fun c hc => (key c hc).2⟩
end Go.Proofs.YtnhhhnngocdagaaDoor.R9

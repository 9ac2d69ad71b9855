/- Plans without places, and their rows of texts, as plain data: two rows are the same just if the plans are, but for places. -/
import Derived.Test.YtjgogpaedaffkaaGreatJRef6g
import Derived.OneCell
import Derived.Maps.AppendAt
import Derived.Test.YtjgogpaedaffkaaGreatJDatB
import Derived.Test.YtjgogpaedaffkaaGreatJParP
namespace Go.Proofs.YtjgogpaedaffkaaGreat.Mm
end Go.Proofs.YtjgogpaedaffkaaGreat.Mm
namespace Go.Proofs.YtjgogpaedaffkaaGreat.P
end Go.Proofs.YtjgogpaedaffkaaGreat.P
namespace Go.Proofs.YtjgogpaedaffkaaGreat.R6
end Go.Proofs.YtjgogpaedaffkaaGreat.R6
namespace Go.Proofs.YtjgogpaedaffkaaGreat.R6
open Go.RowKit Mm P
def nM (m : Meter) : Meter := { m with line := 0, col := 0 }
def nF (f : Fee) : Fee := { f with line := 0, col := 0 }
def nC (c : Charge) : Charge := { c with line := 0, col := 0 }
/-- What a plan in memory is: numbers of 64 bits. -/
structure PlanOk (p : Plan) : Prop where
  days : dayOk p.a ∧ dayOk p.b
  meters : ∀ m ∈ p.meters, I64 m.max
  fees : ∀ f ∈ p.fees, I64 f.amount ∧ winOk f.win
  charges : ∀ c ∈ p.charges, winOk c.win ∧ (I64 c.allowance ∧ I64 c.block ∧ I64 c.kind ∧ I64 c.mode) ∧ (∀ t ∈ c.tiers, I64 t.upto ∧ I64 t.rate) ∧ ∀ a ∈ c.adjusts, I64 a.kind ∧ I64 a.num ∧ I64 a.mode
end Go.Proofs.YtjgogpaedaffkaaGreat.R6
/- Plans whose rows a call has made: each in a block of its own, new and free to write. -/
namespace Go.Proofs.YtjgogpaedaffkaaGreat.Mm
open Go.RowKit Go.Deep P R6
/-- The rows of a plan. -/
inductive Slot where
  | m
  | f
  | c
  | t (i : Nat)
  | a (i : Nat)
deriving DecidableEq
/-- Where a charge's rows lie. -/
structure Hd where
  ta : Option Addr
  tc : Nat
  aa : Option Addr
  ac : Nat
/-- A row: its elements' type and size, its slice, its cells. -/
structure R where
  e : TypeId
  size : Nat
  a : Option Addr
  n : Nat
  cap : Nat
  xs : List Value
def R.v (r : R) : Value := .slice r.a r.n r.cap
/-- Rows, each owned, each in another block. -/
structure Owns (w : World) (base : Nat) (ρ : Slot → Option R) : Prop where
  own : ∀ s r, ρ s = some r → w.ownsRow base r.e r.size r.v r.n r.xs
  apart : ∀ s t r r' k, ρ s = some r → ρ t = some r' → r.v.ownBlock = some k → r'.v.ownBlock = some k → s = t
theorem Owns.on {w w' : World} {base : Nat} {ρ : Slot → Option R} (h : Owns w base ρ) (b : Below w.heap.size w w') : Owns w' base ρ := ⟨fun s r hs => owns_on (h.own s r hs) b, h.apart⟩
/-- What stands in a plan fits into its cells. -/
structure Fits (p : Plan) : Prop where
  meters : ∀ m ∈ p.meters, strOk m.name ∧ strOk m.unit ∧ I64 m.max ∧ I64 m.line ∧ I64 m.col
  fees : ∀ f ∈ p.fees, I64 f.amount ∧ winOk f.win ∧ I64 f.line ∧ I64 f.col
  charges : ∀ c ∈ p.charges, strOk c.meter ∧ winOk c.win ∧ (I64 c.allowance ∧ I64 c.block ∧ I64 c.kind ∧ I64 c.mode ∧ I64 c.line ∧ I64 c.col) ∧ (∀ t ∈ c.tiers, I64 t.upto ∧ I64 t.rate) ∧ ∀ a ∈ c.adjusts, I64 a.kind ∧ I64 a.num ∧ I64 a.mode
  name : strOk p.name ∧ strOk p.cur
  days : dayOk p.a ∧ dayOk p.b
  place : I64 p.line ∧ I64 p.col
/-- A struct's block. -/
structure Box (W : World) (b : Nat) (cs : List Value) : Prop where
  lt : b < W.heap.size
  cell : ∀ j u, cs[j]? = some u → W.cell? ⟨b, j, none⟩ = some u
  free : ∀ j, W.frozen? ⟨b, j, none⟩ = false
theorem Box.new (w : World) (cs : List Value) (t : TypeId) : Box (w.alloc (.cells cs.toArray t)) w.heap.size cs := by
  refine ⟨by simp, fun j u h => ?_, fun j => ?_⟩
  · rw [World.cell?_alloc_new]
    simpa using h
  · simp
theorem Box.on {W W' : World} {b : Nat} {cs : List Value} (h : Box W b cs) (hb : Below W.heap.size W W') : Box W' b cs :=
  ⟨Nat.lt_of_lt_of_le h.lt hb.size, fun j u k => by rw [hb.cell h.lt]; exact h.cell j u k, fun j => by rw [hb.frozen h.lt]; exact h.free j⟩
theorem Box.grown {W W' : World} {b : Nat} {cs : List Value} (h : Box W b cs) {row : Option Nat} (hg : W.grownBy W' row) (hne : some b ≠ row) : Box W' b cs :=
  ⟨Nat.lt_of_lt_of_le h.lt hg.size, fun j u k => by rw [World.cell?_of_block (w := W) (hg.block b h.lt hne)]; exact h.cell j u k, fun j => by rw [World.frozen?_of_block (w := W) (hg.block b h.lt hne)]; exact h.free j⟩
theorem Box.other {W : World} {b : Nat} {cs : List Value} (h : Box W b cs) {p : Addr} (hp : b ≠ p.block) (u : Value) : Box (W.setCell p u) b cs :=
  ⟨by simpa using h.lt, fun j v k => by rw [World.cell?_of_block (w := W) (Below.heap_setCell _ _ _ _ hp)]; exact h.cell j v k, fun j => by rw [World.frozen?_of_block (w := W) (Below.heap_setCell _ _ _ _ hp)]; exact h.free j⟩
theorem Box.set {W : World} {b : Nat} {cs : List Value} (h : Box W b cs) (i : Nat) (u : Value) : Box (W.setCell ⟨b, i, none⟩ u) b (cs.set i u) := by
  refine ⟨by simpa using h.lt, fun j v k => ?_, fun j => ?_⟩
  · rw [List.getElem?_set] at k
    split at k
    · rename_i e
      subst e
      split at k
      · rename_i hi
        obtain rfl : u = v := by simpa using k
        have := h.cell i (cs[i]'hi) (List.getElem?_eq_getElem hi)
        exact World.cell?_setCell_same (h := this) ..
      · cases k
    · rename_i e
      rw [World.cell?_setCell_other (h := show (⟨b, i, none⟩ : Addr) ≠ ⟨b, j, none⟩ by simp only [ne_eq, Addr.mk.injEq, and_true, true_and]; exact e) ..]
      exact h.cell j v k
  · simpa using h.free j
end Go.Proofs.YtjgogpaedaffkaaGreat.Mm
/- A text's tokens, and the plan that they are, fit: the row ends with the end; texts, places and numbers are small. Pure: no program is named here. -/
namespace Go.Proofs.YtjgogpaedaffkaaGreat.P
open Go.RowKit Mm
/-- Tokens that are small. -/
structure Fine (ts : List Tok) : Prop where
  toks : Toks ts
  cnt : ts.length ≤ 8193
  tok : ∀ t ∈ ts, t.t.length ≤ 8192 ∧ t.ln ≤ 8193 ∧ t.cl ≤ 8194
end Go.Proofs.YtjgogpaedaffkaaGreat.P
/- The items of a text, one by one: each goes on, or is the last. Pure: no program is named here. -/
namespace Go.Proofs.YtjgogpaedaffkaaGreat.P
open Go.RowKit Mm
theorem winS_le (ts : List Tok) (s : St) : s.i ≤ (winS ts s).2.i := by
  unfold winS
  split
  · have h1 := tkn_le ts s.next 4
    have h2 := wnt_le ts (dayS ts s.next).2 wTo
    have h3 := tkn_le ts (wnt ts (dayS ts s.next).2 wTo) 4
    have e : s.next.i = s.i + 1 := rfl
    show s.i ≤ (tkn ts (wnt ts (dayS ts s.next).2 wTo) 4).2.i
    have e2 : (dayS ts s.next).2 = (tkn ts s.next 4).2 := rfl
    rw [e2] at h2 h3 ⊢
    omega
  · exact Nat.le_refl _
theorem optS_le (ts : List Tok) (s : St) (l : List UInt8) (d : Int) : s.i ≤ (optS ts s l d).2.i := by
  unfold optS
  split
  · have h1 := numS_le ts s.next 0 1000000
    have h2 := wnt_le ts (numS ts s.next 0 1000000).2 sSemi
    have e : s.next.i = s.i + 1 := rfl
    show s.i ≤ (wnt ts (numS ts s.next 0 1000000).2 sSemi).i
    omega
  · exact Nat.le_refl _
theorem kindS_le (ts : List Tok) (s : St) : s.i ≤ (kindS ts s).2.i := by
  unfold kindS
  simp only
  split
  · exact Nat.le_trans (oneAt_le ts s _ 0) (wrg_le _ _ _)
  · exact oneAt_le ts s _ 0
theorem tiersS_le (ts : List Tok) : ∀ (n : Nat) (s : St) (acc : List Tier), s.i ≤ (tiersS ts n s acc).2.i
  | 0, _, _ => Nat.le_refl _
  | n + 1, s, acc => by
    unfold tiersS
    split
    · have h1 := tierS_le ts s.next
      have h2 := tiersS_le ts n (tierS ts s.next).2 (acc ++ [(tierS ts s.next).1])
      have e : s.next.i = s.i + 1 := rfl
      omega
    · exact Nat.le_refl _
theorem adjsS_le (ts : List Tok) : ∀ (n : Nat) (s : St) (acc : List Adj), s.i ≤ (adjsS ts n s acc).2.i
  | 0, _, _ => Nat.le_refl _
  | n + 1, s, acc => by
    unfold adjsS
    simp only
    have h0 : s.i ≤ (oneS ts s adjWords).2.i := oneAt_le ts s _ 0
    split
    · exact h0
    · have h1 := adjS_le ts (oneS ts s adjWords).2 (1 + (oneS ts s adjWords).1)
      have h2 := adjsS_le ts n (adjS ts (oneS ts s adjWords).2 (1 + (oneS ts s adjWords).1)).2 (acc ++ [(adjS ts (oneS ts s adjWords).2 (1 + (oneS ts s adjWords).1)).1])
      omega
theorem chargeS_le (ts : List Tok) (s : St) (line col : Int) : s.i ≤ (chargeS ts s line col).2.i := by
  refine Nat.le_trans (tkn_le ts s 1) ?_
  refine Nat.le_trans (winS_le ts _) ?_
  refine Nat.le_trans (wnt_le ts _ sOpen) ?_
  refine Nat.le_trans (optS_le ts _ wAllowance 0) ?_
  refine Nat.le_trans (optS_le ts _ wBlock 1) ?_
  refine Nat.le_trans (kindS_le ts _) ?_
  refine Nat.le_trans (wnt_le ts _ sOpen) ?_
  refine Nat.le_trans (tiersS_le ts ts.length _ []) ?_
  refine Nat.le_trans (wnt_le ts _ wRest) ?_
  refine Nat.le_trans (wnt_le ts _ wRate) ?_
  refine Nat.le_trans (numS_le ts _ 6 1000000000000) ?_
  refine Nat.le_trans (wnt_le ts _ sSemi) ?_
  refine Nat.le_trans (wnt_le ts _ sShut) ?_
  refine Nat.le_trans (wnt_le ts _ wRound) ?_
  refine Nat.le_trans (modeS_le ts _) ?_
  refine Nat.le_trans (wnt_le ts _ sSemi) ?_
  refine Nat.le_trans (adjsS_le ts ts.length _ []) ?_
  exact wnt_le ts _ sShut
theorem meterS_le (ts : List Tok) (s : St) (line col : Int) : s.i ≤ (meterS ts s line col).2.i := by
  refine Nat.le_trans (tkn_le ts s 1) ?_
  refine Nat.le_trans (wnt_le ts _ wUnit) ?_
  refine Nat.le_trans (tkn_le ts _ 1) ?_
  refine Nat.le_trans (wnt_le ts _ wMax) ?_
  refine Nat.le_trans (numS_le ts _ 0 2000) ?_
  exact wnt_le ts _ sSemi
theorem feeS_le (ts : List Tok) (s : St) (line col : Int) : s.i ≤ (feeS ts s line col).2.i := by
  refine Nat.le_trans (numS_le ts s 0 1000000000000) ?_
  refine Nat.le_trans (winS_le ts _) ?_
  exact wnt_le ts _ sSemi
/-- An item: the parser goes on, or something is wrong. -/
theorem item_next (ts : List Tok) (s : St) (p : Plan) (h : goesOn ts s = true) : s.i + 1 ≤ (itemS ts s p).2.i ∨ ((itemS ts s p) = (p, wrg ts s 4) ∧ goesOn ts (wrg ts s 4) = false) := by
  by_cases h0 : (oneS ts s itemWords).1 < 0
  · right
    have e : oneS ts s itemWords = (-1, s) := oneAt_no ts s itemWords 0 (Int.le_refl _) h0
    refine ⟨by unfold itemS; simp only; rw [e]; rfl, ?_⟩
    unfold goesOn at h ⊢
    simp only [Bool.and_eq_true, decide_eq_true_eq] at h
    unfold wrg
    rw [if_pos h.1]
    rfl
  · left
    have e : (oneS ts s itemWords).2.i = s.i + 1 := oneAt_yes ts s itemWords 0 (Int.le_refl _) (by show 0 ≤ (oneS ts s itemWords).1; omega)
    unfold itemS
    simp only
    split
    · have := meterS_le ts (oneS ts s itemWords).2 (tk ts s).ln (tk ts s).cl
      simp only
      omega
    · split
      · have := feeS_le ts (oneS ts s itemWords).2 (tk ts s).ln (tk ts s).cl
        simp only
        omega
      · split
        · have := chargeS_le ts (oneS ts s itemWords).2 (tk ts s).ln (tk ts s).cl
          simp only
          omega
        · have := wrg_le ts (oneS ts s itemWords).2 4
          simp only
          omega
theorem items_stop (ts : List Tok) (n : Nat) (s : St) (p : Plan) (h : goesOn ts s = false) : itemsS ts n s p = (p, s) := by
  cases n with
  | zero => rfl
  | succ n => unfold itemsS; rw [h]; rfl
theorem items_fuel (ts : List Tok) : ∀ (n m : Nat) (s : St) (p : Plan), Ok ts s → ts.length ≤ n + s.i → ts.length ≤ m + s.i → itemsS ts n s p = itemsS ts m s p
  | 0, m, s, p, h, hn, _ => by have := h.lt; omega
  | n + 1, 0, s, p, h, _, hm => by have := h.lt; omega
  | n + 1, m + 1, s, p, h, hn, hm => by
    unfold itemsS
    split
    · rename_i ho
      rcases item_next ts s p ho with k | ⟨k1, k2⟩
      · exact items_fuel ts n m _ _ (h.itemS p) (by omega) (by omega)
      · rw [k1]
        simp only
        rw [items_stop ts n _ _ k2, items_stop ts m _ _ k2]
    · rfl
/-- One item more. -/
theorem items_step {ts : List Tok} {s : St} {p : Plan} (h : Ok ts s) (ho : goesOn ts s = true) : itemsS ts ts.length s p = itemsS ts ts.length (itemS ts s p).2 (itemS ts s p).1 := by
  obtain ⟨n, hn⟩ : ∃ n, ts.length = n + 1 := ⟨ts.length - 1, by have := h.lt; omega⟩
  rcases item_next ts s p ho with k | ⟨k1, k2⟩
  · have := items_fuel ts n (n + 1) (itemS ts s p).2 (itemS ts s p).1 (h.itemS p) (by omega) (by omega)
    rw [hn, ← this]
    show itemsS ts (n + 1) s p = _
    rw [itemsS, if_pos ho]
  · rw [hn]
    show itemsS ts (n + 1) s p = _
    rw [itemsS, if_pos ho, k1]
    simp only
    rw [items_stop ts n _ _ k2, items_stop ts (n + 1) _ _ k2]
end Go.Proofs.YtjgogpaedaffkaaGreat.P
/- What has been read of a text, and what is still to read: no program is named here. -/
namespace Go.Proofs.YtjgogpaedaffkaaGreat.P
open Go.RowKit
theorem drop_cons0 {l : List UInt8} {i : Nat} (h : i < l.length) : l.drop i = l.getD i 0 :: l.drop (i + 1) := by
  rw [List.drop_eq_getElem_cons h, List.getD_eq_getElem?_getD, List.getElem?_eq_getElem h, Option.getD_some]
theorem piece_gap {l : List UInt8} {i : Nat} (hi : i < l.length) (hc : isGap (l.getD i 0) = true) : piece (l.drop i) = 1 := by
  have : ¬ (l.getD i 0 == 35) = true := by
    intro h
    rw [beq_iff_eq] at h
    rw [h] at hc
    revert hc; decide
  rw [drop_cons0 hi, piece_cons, if_neg this, if_pos hc]
/-- What has been read, and what is still to read. -/
def Sofar (l : List UInt8) (i ln cl : Nat) (acc : List Tok) : Prop := lex l 1 1 = (acc ++ (lex (l.drop i) ln cl).1, (lex (l.drop i) ln cl).2)
theorem Sofar.count {l : List UInt8} {i ln cl : Nat} {acc : List Tok} (h : Sofar l i ln cl acc) : acc.length ≤ l.length + 1 := by
  have := lex_count l 1 1
  rw [h] at this
  simp only [List.length_append] at this
  omega
theorem Sofar.line {l : List UInt8} {i ln cl : Nat} {acc : List Tok} (h : Sofar l i ln cl acc) (hi : i < l.length) (hc : l.getD i 0 = 10) : Sofar l (i + 1) (ln + 1) 1 acc := by
  have hp : piece (l.drop i) = 1 := piece_gap hi (by rw [hc]; decide)
  unfold Sofar at h ⊢
  rw [drop_cons0 hi] at h hp
  rw [lex_skip (by rw [hc]; decide), hp, hc] at h
  exact h
theorem Sofar.bad {l : List UInt8} {i k ln cl : Nat} {acc : List Tok} (h : Sofar l i ln cl acc) (hi : i < l.length) (hs : skips (l.getD i 0) = false) (hp : piece (l.drop i) = k - i) (hk : kd ((l.drop i).take (k - i)) = 0) : lex l 1 1 = (acc, some (ln, cl)) := by
  unfold Sofar at h
  rw [drop_cons0 hi] at h hp hk
  rw [lex_bad hs (by rw [hp]; exact hk), List.append_nil] at h
  exact h
theorem Sofar.tok {l : List UInt8} {i k ln cl : Nat} {acc : List Tok} (h : Sofar l i ln cl acc) (hi : i < l.length) (hs : skips (l.getD i 0) = false) (hik : i < k) (hp : piece (l.drop i) = k - i) (hk : kd ((l.drop i).take (k - i)) ≠ 0) :
    Sofar l k ln (cl + (k - i)) (acc ++ [⟨kd ((l.drop i).take (k - i)), (l.drop i).take (k - i), ln, cl⟩]) := by
  have e : l.drop k = (l.drop i).drop (k - i) := by rw [List.drop_drop, show i + (k - i) = k by omega]
  unfold Sofar at h ⊢
  rw [e]
  rw [drop_cons0 hi] at h hp hk ⊢
  rw [lex_tok hs (by rw [hp]; exact hk), hp] at h
  rw [List.append_assoc]
  exact h
end Go.Proofs.YtjgogpaedaffkaaGreat.P
/- Two texts, one behind the other, as tokens; tokens with notes between them: no program is named here. -/
namespace Go.Proofs.YtjgogpaedaffkaaGreat.P
open Go.RowKit
theorem run_over {p : UInt8 → Bool} (r m : List UInt8) {c : UInt8} (h : p c = false) : run p (r ++ c :: m) = run p r := by
  induction r with
  | nil => simp [run, h]
  | cons x r ih => simp only [List.cons_append, run, ih]
end Go.Proofs.YtjgogpaedaffkaaGreat.P

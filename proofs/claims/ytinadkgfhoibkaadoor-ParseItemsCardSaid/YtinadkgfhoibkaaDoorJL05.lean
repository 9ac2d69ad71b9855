/- The laws of layer 5, out of what package lex answers ('Lx'): alive, LexIs. -/
import Derived.Test.YtinadkgfhoibkaaDoorJRef5c
import Derived.Deep.RegionWith
namespace Go.Proofs.YtinadkgfhoibkaaDoor.L05
open Go.RowKit Go.Sort P R4 R5

/-- Tokens that lie from a place on. -/
def LieAt (w : World) (b o : Nat) (ts : List Tok) : Prop := b < w.heap.size ∧
    ∀ j t, ts[j]? = some t → w.cell? ⟨b, o + j * 4, none⟩ = some (.int .i64 t.k) ∧ w.cell? ⟨b, o + j * 4 + 1, none⟩ = some (.string ⟨t.t.toArray⟩) ∧ w.cell? ⟨b, o + j * 4 + 2, none⟩ = some (.int .i64 t.ln) ∧ w.cell? ⟨b, o + j * 4 + 3, none⟩ = some (.int .i64 t.cl)
theorem LieAt.on {w w1 : World} {b o : Nat} {ts : List Tok} (h : LieAt w b o ts) (hb : Below w.heap.size w w1) : LieAt w1 b o ts := by
  refine ⟨Nat.lt_of_lt_of_le h.1 hb.size, fun j t hj => ?_⟩
  obtain ⟨a0, a1, a2, a3⟩ := h.2 j t hj
  rw [hb.cell h.1, hb.cell h.1, hb.cell h.1, hb.cell h.1]
  exact ⟨a0, a1, a2, a3⟩
theorem LieAt.alloc {w : World} {b o : Nat} {ts : List Tok} (h : LieAt w b o ts) (x : Obj) : LieAt (w.alloc x) b o ts := h.on ((Below.refl _ _).alloc (Nat.le_refl _) _)
/-- Behind a block that was laid, and a call. -/
theorem LieAt.later {w w1 : World} {b o : Nat} {ts : List Tok} {x : Obj} (h : LieAt w b o ts) (hb : Below (w.alloc x).heap.size (w.alloc x) w1) : LieAt w1 b o ts := (h.alloc x).on hb
/-- An address where tokens lie, if there are any. -/
def Form (w : World) (ao : Option Addr) (ts : List Tok) : Prop := ts ≠ [] → ∃ b o, ao = some ⟨b, o, none⟩ ∧ LieAt w b o ts
theorem Form.on {w w1 : World} {ao : Option Addr} {ts : List Tok} (h : Form w ao ts) (hb : Below w.heap.size w w1) : Form w1 ao ts := fun n => by
  obtain ⟨b, o, h1, h2⟩ := h n
  exact ⟨b, o, h1, h2.on hb⟩
theorem Form.alloc {w : World} {ao : Option Addr} {ts : List Tok} (h : Form w ao ts) (x : Obj) : Form (w.alloc x) ao ts := h.on ((Below.refl _ _).alloc (Nat.le_refl _) _)
theorem Form.later {w w1 : World} {ao : Option Addr} {ts : List Tok} {x : Obj} (h : Form w ao ts) (hb : Below (w.alloc x).heap.size (w.alloc x) w1) : Form w1 ao ts := (h.alloc x).on hb
/-- A slice that holds tokens. -/
def Holds (w : World) (v : Value) (ts : List Tok) : Prop := ∃ ao cap, v = .slice ao ts.length cap ∧ Form w ao ts
theorem tokCells_at (ts : List Tok) (j : Nat) (t : Tok) (h : ts[j]? = some t) : (tokCells ts)[j * 4]? = some (.int .i64 t.k) ∧ (tokCells ts)[j * 4 + 1]? = some (.string ⟨t.t.toArray⟩) ∧ (tokCells ts)[j * 4 + 2]? = some (.int .i64 t.ln) ∧ (tokCells ts)[j * 4 + 3]? = some (.int .i64 t.cl) := by
  induction ts generalizing j with
  | nil => cases j <;> cases h
  | cons a r ih =>
    have e : tokCells (a :: r) = .int .i64 a.k :: .string ⟨a.t.toArray⟩ :: .int .i64 a.ln :: .int .i64 a.cl :: tokCells r := rfl
    rw [e]
    cases j with
    | zero =>
      obtain rfl : a = t := by simpa using h
      exact ⟨rfl, rfl, rfl, rfl⟩
    | succ j =>
      rw [show (j + 1) * 4 = j * 4 + 1 + 1 + 1 + 1 by omega]
      exact ih j (by simpa using h)
/-- What a call's own row holds. -/
theorem holds_own {w : World} {base : Nat} {e : TypeId} {v : Value} {ts : List Tok} (h : w.ownsRow base e 4 v ts.length (tokCells ts)) : Holds w v ts := by
  rcases h.2 with ⟨h1, h2⟩ | ⟨g, cap, cur, h1, h2, h3, h4, h5, h6, h7⟩
  · obtain rfl : ts = [] := List.eq_nil_of_length_eq_zero h2
    exact ⟨none, 0, h1, fun n => absurd rfl n⟩
  · have hg : g < w.heap.size := by
      rcases Nat.lt_or_ge g w.heap.size with k | k
      · exact k
      · rw [Array.getElem?_eq_none k] at h3; cases h3
    subst h1
    have hc := fun j hj => h.cellAt j hj
    refine ⟨some ⟨g, 0, none⟩, cap, rfl, fun _ => ⟨g, 0, rfl, hg, fun j t hj => ?_⟩⟩
    have hl : j < ts.length := (List.getElem?_eq_some_iff.1 hj).1
    obtain ⟨a0, a1, a2, a3⟩ := tokCells_at ts j t hj
    rw [Nat.zero_add, hc _ (by omega), hc _ (by omega), hc _ (by omega), hc _ (by omega)]
    exact ⟨a0, a1, a2, a3⟩
/-- The same, from the block's beginning, with room in the slice for what it holds. -/
def HoldsC (w : World) (v : Value) (ts : List Tok) : Prop := ∃ ao cap, v = .slice ao ts.length cap ∧ ts.length ≤ cap ∧ cap ≤ 9223372036854775807 ∧ (ts ≠ [] → ∃ b, ao = some ⟨b, 0, none⟩ ∧ LieAt w b 0 ts)
theorem HoldsC.holds {w : World} {v : Value} {ts : List Tok} : HoldsC w v ts → Holds w v ts := fun ⟨ao, cap, h1, _, _, h2⟩ => ⟨ao, cap, h1, fun n => by
  obtain ⟨b, k1, k2⟩ := h2 n
  exact ⟨b, 0, k1, k2⟩⟩
theorem holdsC_nil (w : World) : HoldsC w (.slice none 0 0) [] := ⟨none, 0, rfl, Nat.le_refl _, by omega, fun n => absurd rfl n⟩
theorem holdsC_own {w : World} {base : Nat} {e : TypeId} {v : Value} {ts : List Tok} (h : w.ownsRow base e 4 v ts.length (tokCells ts)) : HoldsC w v ts := by
  rcases h.2 with ⟨h1, h2⟩ | ⟨g, cap, cur, h1, h2, h3, h4, h5, h6, h7⟩
  · obtain rfl : ts = [] := List.eq_nil_of_length_eq_zero h2
    exact ⟨none, 0, h1, Nat.le_refl _, by omega, fun n => absurd rfl n⟩
  · have hg : g < w.heap.size := by
      rcases Nat.lt_or_ge g w.heap.size with k | k
      · exact k
      · rw [Array.getElem?_eq_none k] at h3; cases h3
    subst h1
    have hc := fun j hj => h.cellAt j hj
    refine ⟨some ⟨g, 0, none⟩, cap, rfl, h4, by unfold maxLen at h5; omega, fun _ => ⟨g, rfl, hg, fun j t hj => ?_⟩⟩
    have hl : j < ts.length := (List.getElem?_eq_some_iff.1 hj).1
    obtain ⟨a0, a1, a2, a3⟩ := tokCells_at ts j t hj
    rw [Nat.zero_add, hc _ (by omega), hc _ (by omega), hc _ (by omega), hc _ (by omega)]
    exact ⟨a0, a1, a2, a3⟩
/-- A fault as the program holds it. -/
def flt (f : Nat × Nat × Nat) : Value := .agg #[.int .i64 f.1, .int .i64 f.2.1, .int .i64 f.2.2]
/-- What package lex answers, in the worlds that K tells. -/
structure Lx (K : World → Prop) : Prop where
  keep : ∀ {w w' : World}, K w → Below w.heap.size w w' → K w'
  of : ∀ (s : ByteArray) (w : World), K w → s.size ≤ 1000000 → Calls Tryd.prog 20 #[.string s] w fun e w' => e = .returned (.int .i64 (kd s.data.toList)) ∧ Below w.heap.size w w'
  lex : ∀ (s : ByteArray) (w : World), K w → Calls Tryd.prog 11 #[.string s] w fun e w' => ∃ v, e = .returned (.tuple #[v, flt (lexed s.data.toList).2]) ∧ Holds w' v (lexed s.data.toList).1 ∧ Below w.heap.size w w'
theorem lex_ref (s : ByteArray) (w : World) : Calls Tryd.prog 9 #[.string s] w fun e w' => ∃ v, e = .returned (.tuple #[v, .int .i64 (lexed s.data.toList).2.1, .int .i64 (lexed s.data.toList).2.2.1, .int .i64 (lexed s.data.toList).2.2.2]) ∧
    Holds w' v (lexed s.data.toList).1 ∧ Below w.heap.size w w' := (lex_any s w).mono fun _ _ ⟨v, h1, h2, h3⟩ => ⟨v, h1, holds_own h2, h3⟩
/-- Each token is of the kind that its letters are. -/
theorem lx_toks (n : Nat) (l : List UInt8) (ln cl : Nat) : ∀ t ∈ (lx n l ln cl).1, t.t.length ≤ l.length ∧ kd t.t = t.k := by
  induction n generalizing l ln cl with
  | zero =>
    intro t ht
    simp only [lx, List.mem_singleton] at ht
    subst ht
    exact ⟨Nat.zero_le _, rfl⟩
  | succ n ih =>
    cases l with
    | nil =>
      intro t ht
      simp only [lx, List.mem_singleton] at ht
      subst ht
      exact ⟨Nat.zero_le _, rfl⟩
    | cons c r =>
      intro t ht
      have hd : ∀ ln cl, t ∈ (lx n ((c :: r).drop (piece (c :: r))) ln cl).1 → t.t.length ≤ (c :: r).length ∧ kd t.t = t.k := fun ln cl h => by
        have := ih _ ln cl t h
        rw [List.length_drop] at this
        exact ⟨by omega, this.2⟩
      unfold lx at ht
      split at ht
      · exact hd _ _ ht
      · split at ht
        · cases ht
        · rcases List.mem_cons.1 ht with h | h
          · subst h
            exact ⟨by simp only [List.length_take]; omega, rfl⟩
          · exact hd _ _ h
theorem lexed_toks (l : List UInt8) : ∀ t ∈ (lexed l).1, t.t.length ≤ 8192 ∧ kd t.t = t.k := by
  intro t ht
  unfold lexed at ht
  split at ht
  · cases ht
  · split at ht
    · have := lx_toks _ _ _ _ t ht
      exact ⟨by omega, this.2⟩
    · cases ht
theorem lexed_count (l : List UInt8) : (lexed l).1.length ≤ 8193 := by
  unfold lexed
  split
  · exact Nat.zero_le _
  · split
    · have := lex_count l 1 1
      simp only
      omega
    · exact Nat.zero_le _
end Go.Proofs.YtinadkgfhoibkaaDoor.L05

/- Two texts, one behind the other, as tokens; tokens with notes between them: no program is named here. -/
import Derived.Test.YtcigholifpmdjaaLexR
namespace Go.Proofs.Ytcigholifpmdjaa.P
open Go.RowKit

theorem run_over {p : UInt8 → Bool} (r m : List UInt8) {c : UInt8} (h : p c = false) : run p (r ++ c :: m) = run p r := by
  induction r with
  | nil => simp [run, h]
  | cons x r ih => simp only [List.cons_append, run, ih]
theorem piece_over (l m : List UInt8) (h : l ≠ []) : piece (l ++ 10 :: m) = piece l := by
  cases l with
  | nil => exact absurd rfl h
  | cons c r =>
    rw [List.cons_append, piece_cons, piece_cons, run_over (p := fun x => !(x == 10)) r m (by decide), run_over (p := isLt) r m (by decide)]
/-- Where one text ends and another begins. -/
theorem lex_over (n : Nat) (a b : List UInt8) (ln cl : Nat) (hn : a.length ≤ n) :
    (∃ ts p, lex a ln cl = (ts, some p) ∧ lex (a ++ 10 :: b) ln cl = (ts, some p)) ∨
    ∃ init u v, lex a ln cl = (init ++ [⟨0, [], u, v⟩], none) ∧ lex (a ++ 10 :: b) ln cl = (init ++ (lex b (u + 1) 1).1, (lex b (u + 1) 1).2) ∧ ln ≤ u := by
  induction n generalizing a ln cl with
  | zero =>
    obtain rfl : a = [] := List.eq_nil_of_length_eq_zero (by omega)
    refine .inr ⟨[], ln, cl, rfl, ?_, Nat.le_refl _⟩
    rw [List.nil_append, lex_skip (by decide)]
    rfl
  | succ n ih =>
    cases a with
    | nil =>
      refine .inr ⟨[], ln, cl, rfl, ?_, Nat.le_refl _⟩
      rw [List.nil_append, lex_skip (by decide)]
      rfl
    | cons c r =>
      have hp := piece_pos c r
      have hl := piece_le (c :: r)
      have e1 := piece_over (c :: r) b (by simp)
      have e2 : ((c :: r) ++ 10 :: b).take (piece (c :: r)) = (c :: r).take (piece (c :: r)) := by rw [List.take_append_of_le_length hl]
      have e3 : ((c :: r) ++ 10 :: b).drop (piece (c :: r)) = (c :: r).drop (piece (c :: r)) ++ 10 :: b := by rw [List.drop_append_of_le_length hl]
      have hd : ((c :: r).drop (piece (c :: r))).length ≤ n := by rw [List.length_drop]; simp only [List.length_cons] at hn ⊢; omega
      rw [List.cons_append] at e1 e2 e3
      cases hs : skips c
      · by_cases hk : kd ((c :: r).take (piece (c :: r))) = 0
        · refine .inl ⟨[], (ln, cl), lex_bad hs hk ln cl, ?_⟩
          rw [List.cons_append]
          exact lex_bad hs (by rw [e1, e2]; exact hk) ln cl
        · have h1 := lex_tok hs hk ln cl
          have h2 := lex_tok (c := c) (r := r ++ 10 :: b) hs (by rw [e1, e2]; exact hk) ln cl
          rw [e1, e2, e3] at h2
          rw [List.cons_append, h1, h2]
          rcases ih _ ln (cl + piece (c :: r)) hd with ⟨ts, p, g1, g2⟩ | ⟨init, u, v, g1, g2, g3⟩
          · rw [g1, g2]
            exact .inl ⟨_, _, rfl, rfl⟩
          · rw [g1, g2]
            exact .inr ⟨_ :: init, u, v, rfl, rfl, g3⟩
      · have h1 := lex_skip (r := r) hs ln cl
        have h2 := lex_skip (c := c) (r := r ++ 10 :: b) hs ln cl
        rw [e1, e3] at h2
        rw [List.cons_append, h1, h2]
        rcases ih _ _ _ hd with g | ⟨init, u, v, g1, g2, g3⟩
        · exact .inl g
        · refine .inr ⟨init, u, v, g1, g2, ?_⟩
          revert g3
          split <;> omega
/-- Further down. -/
def down (d : Nat) (t : Tok) : Tok := ⟨t.k, t.t, t.ln + d, t.cl⟩
theorem lx_down (n : Nat) (l : List UInt8) (ln cl d : Nat) : lx n l (ln + d) cl = ((lx n l ln cl).1.map (down d), (lx n l ln cl).2.map fun p => (p.1 + d, p.2)) := by
  induction n generalizing l ln cl with
  | zero => rfl
  | succ n ih =>
    cases l with
    | nil => rfl
    | cons c r =>
      unfold lx
      by_cases hs : skips c = true
      · rw [if_pos hs, if_pos hs]
        by_cases hc : (c == 10) = true
        · rw [if_pos hc, if_pos hc, if_pos hc, show ln + d + 1 = ln + 1 + d by omega]
          exact ih _ _ _
        · rw [if_neg hc, if_neg hc, if_neg hc]
          exact ih _ _ _
      · rw [if_neg hs, if_neg hs]
        by_cases hk : kd ((c :: r).take (piece (c :: r))) = 0
        · rw [if_pos hk, if_pos hk]
          rfl
        · rw [if_neg hk, if_neg hk, ih]
          rfl
theorem lex_down (l : List UInt8) (ln cl d : Nat) : lex l (ln + d) cl = ((lex l ln cl).1.map (down d), (lex l ln cl).2.map fun p => (p.1 + d, p.2)) := lx_down _ _ _ _ _
/-- No line is further down than there are bytes. -/
theorem lx_lines (n : Nat) (l : List UInt8) (ln cl : Nat) : (∀ t ∈ (lx n l ln cl).1, t.ln ≤ ln + l.length) ∧ ∀ p, (lx n l ln cl).2 = some p → p.1 ≤ ln + l.length := by
  induction n generalizing l ln cl with
  | zero =>
    refine ⟨fun t ht => ?_, fun p hp => by cases hp⟩
    simp only [lx, List.mem_singleton] at ht
    subst ht
    exact Nat.le_add_right _ _
  | succ n ih =>
    cases l with
    | nil =>
      refine ⟨fun t ht => ?_, fun p hp => by cases hp⟩
      simp only [lx, List.mem_singleton] at ht
      subst ht
      exact Nat.le_add_right _ _
    | cons c r =>
      have hp := piece_pos c r
      have hl := piece_le (c :: r)
      have hld : ((c :: r).drop (piece (c :: r))).length = (c :: r).length - piece (c :: r) := List.length_drop
      have step : ∀ ln' cl', ln' ≤ ln + 1 → (∀ t ∈ (lx n ((c :: r).drop (piece (c :: r))) ln' cl').1, t.ln ≤ ln + (c :: r).length) ∧ ∀ p, (lx n ((c :: r).drop (piece (c :: r))) ln' cl').2 = some p → p.1 ≤ ln + (c :: r).length := fun ln' cl' h => by
        have := ih ((c :: r).drop (piece (c :: r))) ln' cl'
        exact ⟨fun t ht => by have := this.1 t ht; omega, fun p hp => by have := this.2 p hp; omega⟩
      unfold lx
      split
      · exact step _ _ (by split <;> omega)
      · split
        · exact ⟨(fun t ht => by cases ht), (fun p hp => by cases hp; exact Nat.le_add_right _ _)⟩
        · have g := step ln (cl + piece (c :: r)) (by omega)
          refine ⟨fun t ht => ?_, fun p hp => g.2 p hp⟩
          rcases List.mem_cons.1 ht with rfl | ht
          · exact Nat.le_add_right _ _
          · exact g.1 t ht
/-- What three Lex answer. -/
theorem lexed_joins (a b : List UInt8) (ha : a.length ≤ 4096) (hb : b.length < 4096) :
    (∃ p q, lexed a = ([], 3, p, q) ∧ lexed (a ++ 10 :: b) = ([], 3, p, q)) ∨
    ∃ init u v, lexed a = (init ++ [⟨0, [], u, v⟩], 0, 0, 0) ∧
      u ≤ 4097 ∧ ((∃ p q, lexed b = ([], 3, p, q) ∧ lexed (a ++ 10 :: b) = ([], 3, p + u, q) ∧ p ≤ 4097) ∨
       ∃ ys, lexed b = (ys, 0, 0, 0) ∧ lexed (a ++ 10 :: b) = (init ++ ys.map (down u), 0, 0, 0) ∧ ∀ t ∈ ys, t.ln ≤ 4097) := by
  have hab : (a ++ 10 :: b).length ≤ 8192 := by rw [List.length_append, List.length_cons]; omega
  rcases lex_over a.length a b 1 1 (Nat.le_refl _) with ⟨ts, ⟨p, q⟩, h1, h2⟩ | ⟨init, u, v, h1, h2, _⟩
  · exact .inl ⟨p, q, lexed_bad (by omega) h1, lexed_bad hab h2⟩
  · have hu : u ≤ 1 + a.length := by
      have := (lx_lines a.length a 1 1).1 ⟨0, [], u, v⟩ (by
        show _ ∈ (lex a 1 1).1
        rw [h1]; simp)
      exact this
    have hlb : (∀ t ∈ (lex b 1 1).1, t.ln ≤ 1 + b.length) ∧ ∀ p, (lex b 1 1).2 = some p → p.1 ≤ 1 + b.length := lx_lines b.length b 1 1
    refine .inr ⟨init, u, v, lexed_ok (by omega) h1, by omega, ?_⟩
    have e := lex_down b 1 1 u
    rw [show 1 + u = u + 1 by omega] at e
    rw [e] at h2
    cases hl : lex b 1 1 with
    | mk ys o =>
      rw [hl] at h2 hlb
      cases o with
      | none => exact .inr ⟨ys, lexed_ok (by omega) hl, lexed_ok hab h2, fun t ht => by have := hlb.1 t ht; omega⟩
      | some p => exact .inl ⟨p.1, p.2, lexed_bad (by omega) hl, lexed_bad hab h2, by have := hlb.2 p rfl; omega⟩
end Go.Proofs.Ytcigholifpmdjaa.P

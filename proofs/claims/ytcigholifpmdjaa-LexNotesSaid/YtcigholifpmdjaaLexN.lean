/- Tokens with notes between them, lexed again: no program is named here. -/
import Derived.Test.YtcigholifpmdjaaLexJ
namespace Go.Proofs.Ytcigholifpmdjaa.P
open Go.RowKit

/-- Letters that are one token. -/
structure Whole (t : List UInt8) : Prop where
  some : t ≠ []
  kind : kd t ≠ 0
  skip : skips (t.getD 0 0) = false
  row : (isLt (t.getD 0 0) = true ∧ t.all isLt = true) ∨ (isLt (t.getD 0 0) = false ∧ t.length = 1)
theorem run_take (p : UInt8 → Bool) (l : List UInt8) : (l.take (run p l)).all p = true := by
  induction l with
  | nil => rfl
  | cons c r ih =>
    unfold run
    by_cases h : p c = true
    · rw [if_pos h, List.take_succ_cons, List.all_cons, h, ih]
      rfl
    · rw [if_neg h]
      rfl
theorem run_whole {p : UInt8 → Bool} (l m : List UInt8) {c : UInt8} (h : l.all p = true) (hc : p c = false) : run p (l ++ c :: m) = l.length := by
  rw [run_over l m hc]
  exact run_eq _ _ _ (Nat.le_refl _) (fun j hj => by
    rw [List.all_eq_true] at h
    refine h _ ?_
    rw [List.getD_eq_getElem?_getD, List.getElem?_eq_getElem hj]
    exact List.getElem_mem hj) (fun k => absurd k (Nat.lt_irrefl _))
theorem whole_piece {c : UInt8} {r : List UInt8} (hs : skips c = false) (hk : kd ((c :: r).take (piece (c :: r))) ≠ 0) : Whole ((c :: r).take (piece (c :: r))) := by
  have hp := piece_pos c r
  obtain ⟨n, hn⟩ : ∃ n, piece (c :: r) = n + 1 := ⟨piece (c :: r) - 1, by omega⟩
  have hs' := hs
  unfold skips at hs'
  rw [Bool.or_eq_false_iff] at hs'
  have e : (c :: r).take (piece (c :: r)) = c :: r.take n := by rw [hn, List.take_succ_cons]
  refine ⟨by rw [e]; simp, hk, by rw [e]; exact hs, ?_⟩
  rw [e]
  rw [piece_cons, if_neg (by rw [hs'.1]; decide), if_neg (by rw [hs'.2]; decide)] at hn
  by_cases hl : isLt c = true
  · rw [if_pos hl] at hn
    obtain rfl : n = run isLt r := by omega
    refine .inl ⟨hl, ?_⟩
    rw [List.all_cons, run_take, hl]
    rfl
  · rw [if_neg hl] at hn
    obtain rfl : n = 0 := by omega
    exact .inr ⟨by simpa using hl, rfl⟩
/-- All tokens but the last are such. -/
theorem lex_whole (n : Nat) (l : List UInt8) (ln cl : Nat) (hn : l.length ≤ n) (h : (lex l ln cl).2 = none) :
    ∃ init u v, (lex l ln cl).1 = init ++ [⟨0, [], u, v⟩] ∧ (∀ t ∈ init, Whole t.t ∧ kd t.t = t.k) ∧ (init.map fun t => t.t.length).sum ≤ l.length := by
  induction n generalizing l ln cl with
  | zero =>
    obtain rfl : l = [] := List.eq_nil_of_length_eq_zero (by omega)
    exact ⟨[], ln, cl, rfl, (fun t ht => by cases ht), Nat.zero_le _⟩
  | succ n ih =>
    cases l with
    | nil => exact ⟨[], ln, cl, rfl, (fun t ht => by cases ht), Nat.zero_le _⟩
    | cons c r =>
      have hp := piece_pos c r
      have hl := piece_le (c :: r)
      have hd : ((c :: r).drop (piece (c :: r))).length ≤ n := by rw [List.length_drop]; simp only [List.length_cons] at hn ⊢; omega
      have hld : ((c :: r).drop (piece (c :: r))).length = (c :: r).length - piece (c :: r) := List.length_drop
      cases hs : skips c
      · by_cases hk : kd ((c :: r).take (piece (c :: r))) = 0
        · rw [lex_bad hs hk] at h; cases h
        · rw [lex_tok hs hk] at h ⊢
          obtain ⟨init, u, v, g1, g2, g3⟩ := ih _ _ _ hd h
          refine ⟨_ :: init, u, v, by rw [g1]; rfl, fun t ht => ?_, ?_⟩
          · rcases List.mem_cons.1 ht with rfl | ht
            · exact ⟨whole_piece hs hk, rfl⟩
            · exact g2 t ht
          · rw [List.map_cons, List.sum_cons]
            simp only [List.length_take]
            omega
      · rw [lex_skip hs] at h ⊢
        obtain ⟨init, u, v, g1, g2, g3⟩ := ih _ _ _ hd h
        exact ⟨init, u, v, g1, g2, by omega⟩
/-- What stands behind a token. -/
def behind (note : List UInt8) (i : Nat) : List UInt8 := if i % 3 = 0 then 32 :: 9 :: 35 :: (note ++ [10]) else [32]
/-- Tokens, with blanks and notes between. -/
def noted (note : List UInt8) : Nat → List (List UInt8) → List UInt8
  | _, [] => []
  | i, t :: r => t ++ (behind note i ++ noted note (i + 1) r)
theorem lex_behind (note : List UInt8) (hn : ∀ c ∈ note, c ≠ 10) (i : Nat) (m : List UInt8) (ln cl : Nat) : ∃ ln' cl', lex (behind note i ++ m) ln cl = lex m ln' cl' := by
  unfold behind
  split
  · rw [List.cons_append, lex_skip (by decide)]
    show ∃ ln' cl', lex (9 :: 35 :: (note ++ [10]) ++ m) _ _ = _
    rw [List.cons_append, lex_skip (by decide)]
    show ∃ ln' cl', lex (35 :: (note ++ [10]) ++ m) _ _ = _
    have e : 35 :: (note ++ [10]) ++ m = 35 :: (note ++ 10 :: m) := by simp
    have hp : piece (35 :: (note ++ 10 :: m)) = note.length + 1 := by
      rw [piece_cons, if_pos (by decide), run_whole (p := fun x => !(x == 10)) note m (by rw [List.all_eq_true]; intro c hc; simpa using hn c hc) (by decide)]
    have hd : (35 :: (note ++ 10 :: m)).drop (note.length + 1) = 10 :: m := by rw [List.drop_succ_cons, List.drop_left]
    rw [e, lex_skip (by decide), hp, hd, lex_skip (by decide)]
    exact ⟨_, _, rfl⟩
  · rw [List.cons_append, lex_skip (by decide)]
    exact ⟨_, _, rfl⟩
theorem behind_head (note : List UInt8) (i : Nat) (m : List UInt8) : ∃ x, behind note i ++ m = 32 :: x := by unfold behind; split <;> exact ⟨_, rfl⟩
theorem lex_one {t : List UInt8} (h : Whole t) (x : List UInt8) (ln cl : Nat) : lex (t ++ 32 :: x) ln cl = (⟨kd t, t, ln, cl⟩ :: (lex (32 :: x) ln (cl + t.length)).1, (lex (32 :: x) ln (cl + t.length)).2) := by
  obtain ⟨h1, h2, h3, h4⟩ := h
  cases t with
  | nil => exact absurd rfl h1
  | cons c r =>
    have h3' : skips c = false := h3
    have hs := h3'
    unfold skips at hs
    rw [Bool.or_eq_false_iff] at hs
    have hp : piece ((c :: r) ++ 32 :: x) = (c :: r).length := by
      rw [List.cons_append, piece_cons, if_neg (by rw [hs.1]; decide), if_neg (by rw [hs.2]; decide)]
      rcases h4 with ⟨a, b⟩ | ⟨a, b⟩
      · rw [if_pos (by exact a), run_whole r x (by rw [List.all_cons, Bool.and_eq_true] at b; exact b.2) (by decide)]
        rfl
      · rw [if_neg (by rw [show isLt c = false from a]; decide)]
        exact b.symm
    have ht : ((c :: r) ++ 32 :: x).take (c :: r).length = c :: r := List.take_left
    have hd : ((c :: r) ++ 32 :: x).drop (c :: r).length = 32 :: x := List.drop_left
    have := lex_tok (c := c) (r := r ++ 32 :: x) h3' (by rw [← List.cons_append, hp, ht]; exact h2) ln cl
    rw [← List.cons_append, hp, ht, hd] at this
    exact this
theorem lex_noted (note : List UInt8) (hn : ∀ c ∈ note, c ≠ 10) (init : List Tok) (h : ∀ t ∈ init, Whole t.t ∧ kd t.t = t.k) (i ln cl : Nat) :
    ∃ ts, lex (noted note i (init.map (fun t => t.t) ++ [[]])) ln cl = (ts, none) ∧ ts.map (fun t => (t.k, t.t)) = init.map (fun t => (t.k, t.t)) ++ [(0, [])] := by
  induction init generalizing i ln cl with
  | nil =>
    show ∃ ts, lex ([] ++ (behind note i ++ [])) ln cl = _ ∧ _
    rw [List.nil_append]
    obtain ⟨a, b, e⟩ := lex_behind note hn i [] ln cl
    rw [e]
    exact ⟨_, rfl, rfl⟩
  | cons t r ih =>
    show ∃ ts, lex (t.t ++ (behind note i ++ noted note (i + 1) (r.map (fun t => t.t) ++ [[]]))) ln cl = _ ∧ _
    obtain ⟨x, hx⟩ := behind_head note i (noted note (i + 1) (r.map (fun t => t.t) ++ [[]]))
    have ht := h t (List.mem_cons_self ..)
    rw [hx, lex_one ht.1, ← hx]
    obtain ⟨a, b, e⟩ := lex_behind note hn i (noted note (i + 1) (r.map (fun t => t.t) ++ [[]])) ln (cl + t.t.length)
    obtain ⟨ts, g1, g2⟩ := ih (fun y hy => h y (List.mem_cons_of_mem _ hy)) (i + 1) a b
    rw [e, g1]
    exact ⟨_, rfl, by simp only [List.map_cons, List.cons_append, g2, ht.2]⟩
/-- What Lex answers of tokens with notes between. -/
theorem lexed_notes (l note : List UInt8) (hn : ∀ c ∈ note, c ≠ 10) (h : (lexed l).2 = (0, 0, 0)) (hs : (noted note 0 ((lexed l).1.map fun t => t.t)).length ≤ 8192) :
    ∃ ts, lexed (noted note 0 ((lexed l).1.map fun t => t.t)) = (ts, 0, 0, 0) ∧ ts.map (fun t => (t.k, t.t)) = (lexed l).1.map (fun t => (t.k, t.t)) := by
  have hl : l.length ≤ 8192 := by
    rcases Nat.lt_or_ge 8192 l.length with k | k
    · rw [lexed_great k] at h; cases h
    · exact k
  cases ho : lex l 1 1 with
  | mk ys o =>
    cases o with
    | some p => rw [lexed_bad hl ho] at h; cases h
    | none =>
      have e := lexed_ok hl ho
      obtain ⟨init, u, v, g1, g2, _⟩ := lex_whole _ l 1 1 (Nat.le_refl _) (by rw [ho])
      rw [ho] at g1
      simp only at g1
      rw [e] at hs ⊢
      simp only at hs ⊢
      rw [g1, List.map_append] at hs ⊢
      obtain ⟨ts, k1, k2⟩ := lex_noted note hn init g2 0 1 1
      refine ⟨ts, lexed_ok hs k1, ?_⟩
      rw [k2, List.map_append]
      rfl
end Go.Proofs.Ytcigholifpmdjaa.P

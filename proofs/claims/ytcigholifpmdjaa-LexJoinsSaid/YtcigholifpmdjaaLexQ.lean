/- A text as tokens, as a plain function on bytes: no program is named here. -/
import Derived.Test.YtcigholifpmdjaaLexP
namespace Go.Proofs.Ytcigholifpmdjaa.P
open Go.RowKit

/-- A token: its kind, its letters, its place. -/
structure Tok where
  k : Nat
  t : List UInt8
  ln : Nat
  cl : Nat
deriving DecidableEq
def isGap (c : UInt8) : Bool := c == 32 || c == 9 || c == 10 || c == 13
def skips (c : UInt8) : Bool := c == 35 || isGap c
/-- How many letters stand in a row. -/
def run (p : UInt8 → Bool) : List UInt8 → Nat
  | [] => 0
  | c :: r => if p c then run p r + 1 else 0
theorem run_le (p : UInt8 → Bool) (l : List UInt8) : run p l ≤ l.length := by
  induction l with
  | nil => exact Nat.le_refl _
  | cons c r ih => unfold run; split <;> simp <;> omega
theorem run_all (p : UInt8 → Bool) (l : List UInt8) : ∀ j, j < run p l → p (l.getD j 0) = true := by
  induction l with
  | nil => intro j hj; simp [run] at hj
  | cons c r ih =>
    intro j hj
    unfold run at hj
    split at hj
    · cases j with
      | zero => assumption
      | succ j => exact ih j (by omega)
    · omega
theorem run_stop (p : UInt8 → Bool) (l : List UInt8) (h : run p l < l.length) : p (l.getD (run p l) 0) = false := by
  induction l with
  | nil => simp at h
  | cons c r ih =>
    unfold run at h ⊢
    split
    · rename_i hc
      rw [if_pos hc] at h
      exact ih (by simpa using h)
    · rename_i hc
      simpa using hc
/-- It is the run's length that all before are, and that the next one is not. -/
theorem run_eq (p : UInt8 → Bool) (l : List UInt8) (n : Nat) (hn : n ≤ l.length) (h1 : ∀ j, j < n → p (l.getD j 0) = true) (h2 : n < l.length → p (l.getD n 0) = false) : run p l = n := by
  induction l generalizing n with
  | nil => simp at hn; simp [run, hn]
  | cons c r ih =>
    unfold run
    cases n with
    | zero =>
      have := h2 (by simp)
      rw [if_neg (by simpa using this)]
    | succ n =>
      have := h1 0 (by omega)
      rw [if_pos (by simpa using this), ih n (by simpa using hn) (fun j hj => by simpa using h1 (j + 1) (by omega)) (fun h => by simpa using h2 (by simpa using h))]
/-- Of how many bytes what stands at the head is. -/
def piece : List UInt8 → Nat
  | [] => 0
  | c :: r => if c == 35 then run (fun x => !(x == 10)) r + 1 else if isGap c then 1 else if isLt c then run isLt r + 1 else 1
theorem piece_cons (c : UInt8) (r : List UInt8) : piece (c :: r) = if c == 35 then run (fun x => !(x == 10)) r + 1 else if isGap c then 1 else if isLt c then run isLt r + 1 else 1 := rfl
theorem piece_pos (c : UInt8) (r : List UInt8) : 0 < piece (c :: r) := by rw [piece_cons]; repeat' split
                                                                          all_goals omega
theorem piece_le (l : List UInt8) : piece l ≤ l.length := by
  cases l with
  | nil => exact Nat.le_refl _
  | cons c r =>
    have h1 := run_le (fun x => !(x == 10)) r
    have h2 := run_le isLt r
    rw [piece_cons, List.length_cons]
    repeat' split
    all_goals omega
/-- All tokens from a place on; and the place of what is none, if there is such. -/
def lx : Nat → List UInt8 → Nat → Nat → List Tok × Option (Nat × Nat)
  | 0, _, ln, cl => ([⟨0, [], ln, cl⟩], none)
  | _ + 1, [], ln, cl => ([⟨0, [], ln, cl⟩], none)
  | n + 1, c :: r, ln, cl =>
    if skips c then lx n ((c :: r).drop (piece (c :: r))) (if c == 10 then ln + 1 else ln) (if c == 10 then 1 else cl + piece (c :: r))
    else if kd ((c :: r).take (piece (c :: r))) = 0 then ([], some (ln, cl))
    else (⟨kd ((c :: r).take (piece (c :: r))), (c :: r).take (piece (c :: r)), ln, cl⟩ :: (lx n ((c :: r).drop (piece (c :: r))) ln (cl + piece (c :: r))).1, (lx n ((c :: r).drop (piece (c :: r))) ln (cl + piece (c :: r))).2)
/-- More fuel changes nothing. -/
theorem lx_fuel (n m : Nat) (l : List UInt8) (ln cl : Nat) (hn : l.length ≤ n) (hm : l.length ≤ m) : lx n l ln cl = lx m l ln cl := by
  induction n generalizing m l ln cl with
  | zero =>
    obtain rfl : l = [] := List.eq_nil_of_length_eq_zero (by omega)
    cases m <;> rfl
  | succ n ih =>
    cases l with
    | nil => cases m <;> rfl
    | cons c r =>
      cases m with
      | zero => simp at hm
      | succ m =>
        have hp := piece_pos c r
        have hd : ((c :: r).drop (piece (c :: r))).length ≤ r.length := by rw [List.length_drop, List.length_cons]; omega
        simp only [List.length_cons] at hn hm
        unfold lx
        have e := fun ln cl => ih m ((c :: r).drop (piece (c :: r))) ln cl (by omega) (by omega)
        rw [e, e]
def lex (l : List UInt8) (ln cl : Nat) : List Tok × Option (Nat × Nat) := lx l.length l ln cl
theorem lex_nil (ln cl : Nat) : lex [] ln cl = ([⟨0, [], ln, cl⟩], none) := rfl
theorem lex_skip {c : UInt8} {r : List UInt8} (h : skips c = true) (ln cl : Nat) :
    lex (c :: r) ln cl = lex ((c :: r).drop (piece (c :: r))) (if c == 10 then ln + 1 else ln) (if c == 10 then 1 else cl + piece (c :: r)) := by
  have hp := piece_pos c r
  show lx (r.length + 1) (c :: r) ln cl = _
  unfold lx
  rw [if_pos h]
  exact lx_fuel _ _ _ _ _ (by rw [List.length_drop, List.length_cons]; omega) (Nat.le_refl _)
theorem lex_bad {c : UInt8} {r : List UInt8} (h : skips c = false) (hk : kd ((c :: r).take (piece (c :: r))) = 0) (ln cl : Nat) : lex (c :: r) ln cl = ([], some (ln, cl)) := by
  show lx (r.length + 1) (c :: r) ln cl = _
  unfold lx
  rw [if_neg (by rw [h]; decide), if_pos hk]
theorem lex_tok {c : UInt8} {r : List UInt8} (h : skips c = false) (hk : kd ((c :: r).take (piece (c :: r))) ≠ 0) (ln cl : Nat) :
    lex (c :: r) ln cl = (⟨kd ((c :: r).take (piece (c :: r))), (c :: r).take (piece (c :: r)), ln, cl⟩ :: (lex ((c :: r).drop (piece (c :: r))) ln (cl + piece (c :: r))).1, (lex ((c :: r).drop (piece (c :: r))) ln (cl + piece (c :: r))).2) := by
  have hp := piece_pos c r
  show lx (r.length + 1) (c :: r) ln cl = _
  unfold lx
  rw [if_neg (by rw [h]; decide), if_neg hk]
  rw [show lx r.length ((c :: r).drop (piece (c :: r))) ln (cl + piece (c :: r)) = lex ((c :: r).drop (piece (c :: r))) ln (cl + piece (c :: r)) from lx_fuel _ _ _ _ _ (by rw [List.length_drop, List.length_cons]; omega) (Nat.le_refl _)]
/-- What Lex answers: tokens, and the error's number and place. -/
def lexed (l : List UInt8) : List Tok × Nat × Nat × Nat :=
  if 8192 < l.length then ([], 6, 1, 1) else
    match (lex l 1 1).2 with
    | none => ((lex l 1 1).1, 0, 0, 0)
    | some (a, b) => ([], 3, a, b)
/-- No more tokens than bytes, and one. -/
theorem lx_count (n : Nat) (l : List UInt8) (ln cl : Nat) (hn : l.length ≤ n) : (lx n l ln cl).1.length ≤ l.length + 1 := by
  induction n generalizing l ln cl with
  | zero => simp [lx]
  | succ n ih =>
    cases l with
    | nil => simp [lx]
    | cons c r =>
      have hp := piece_pos c r
      have hd : ((c :: r).drop (piece (c :: r))).length ≤ r.length := by rw [List.length_drop, List.length_cons]; omega
      simp only [List.length_cons] at hn
      unfold lx
      have e := fun ln cl => ih ((c :: r).drop (piece (c :: r))) ln cl (by omega)
      split
      · refine Nat.le_trans (e _ _) ?_
        simp only [List.length_cons]; omega
      · split
        · simp
        · have := e ln (cl + piece (c :: r))
          simp only [List.length_cons]
          omega
theorem lex_count (l : List UInt8) (ln cl : Nat) : (lex l ln cl).1.length ≤ l.length + 1 := lx_count _ _ _ _ (Nat.le_refl _)
end Go.Proofs.Ytcigholifpmdjaa.P

/- What has been read of a text, and what is still to read: no program is named here. -/
import Derived.Test.YtcigholifpmdjaaLexQ
namespace Go.Proofs.Ytcigholifpmdjaa.P
open Go.RowKit

theorem drop_cons0 {l : List UInt8} {i : Nat} (h : i < l.length) : l.drop i = l.getD i 0 :: l.drop (i + 1) := by
  rw [List.drop_eq_getElem_cons h, List.getD_eq_getElem?_getD, List.getElem?_eq_getElem h, Option.getD_some]
theorem getD_drop0 (l : List UInt8) (a j : Nat) : (l.drop a).getD j 0 = l.getD (a + j) 0 := by
  rw [List.getD_eq_getElem?_getD, List.getElem?_drop, List.getD_eq_getElem?_getD]
/-- A run from a place on. -/
theorem run_at {p : UInt8 → Bool} {l : List UInt8} {i k : Nat} (h0 : i ≤ k) (h1 : k ≤ l.length) (ha : ∀ j, i ≤ j → j < k → p (l.getD j 0) = true) (hs : k < l.length → p (l.getD k 0) = false) : run p (l.drop i) = k - i := by
  refine run_eq _ _ _ (by rw [List.length_drop]; omega) (fun j hj => ?_) (fun h => ?_)
  · rw [getD_drop0]; exact ha _ (by omega) (by omega)
  · rw [getD_drop0, show i + (k - i) = k by omega]; exact hs (by rw [List.length_drop] at h; omega)
theorem piece_note {l : List UInt8} {i k : Nat} (hi : i < l.length) (h0 : i + 1 ≤ k) (h1 : k ≤ l.length) (hc : l.getD i 0 = 35) (ha : ∀ j, i + 1 ≤ j → j < k → l.getD j 0 ≠ 10) (hs : k < l.length → l.getD k 0 = 10) : piece (l.drop i) = k - i := by
  rw [drop_cons0 hi, piece_cons, hc, if_pos (by decide), run_at h0 h1 (fun j a b => by simpa using ha j a b) (fun h => by rw [hs h]; decide)]
  omega
theorem piece_gap {l : List UInt8} {i : Nat} (hi : i < l.length) (hc : isGap (l.getD i 0) = true) : piece (l.drop i) = 1 := by
  have : ¬ (l.getD i 0 == 35) = true := by
    intro h
    rw [beq_iff_eq] at h
    rw [h] at hc
    revert hc; decide
  rw [drop_cons0 hi, piece_cons, if_neg this, if_pos hc]
theorem piece_row {l : List UInt8} {i k : Nat} (hi : i < l.length) (h0 : i + 1 ≤ k) (h1 : k ≤ l.length) (hn : skips (l.getD i 0) = false) (ha : ∀ j, i + 1 ≤ j → j < k → isLt (l.getD j 0) = true)
    (hs : isLt (l.getD i 0) = true → k < l.length → isLt (l.getD k 0) = false) (ho : isLt (l.getD i 0) = false → k = i + 1) : piece (l.drop i) = k - i := by
  unfold skips at hn
  rw [Bool.or_eq_false_iff] at hn
  rw [drop_cons0 hi, piece_cons, if_neg (by rw [hn.1]; decide), if_neg (by rw [hn.2]; decide)]
  by_cases hl : isLt (l.getD i 0) = true
  · rw [if_pos hl, run_at h0 h1 ha (hs hl)]
    omega
  · rw [if_neg hl, ho (by simpa using hl)]
    omega

/-- What has been read, and what is still to read. -/
def Sofar (l : List UInt8) (i ln cl : Nat) (acc : List Tok) : Prop := lex l 1 1 = (acc ++ (lex (l.drop i) ln cl).1, (lex (l.drop i) ln cl).2)
theorem read_start (l : List UInt8) : Sofar l 0 1 1 [] := by unfold Sofar; simp
theorem Sofar.count {l : List UInt8} {i ln cl : Nat} {acc : List Tok} (h : Sofar l i ln cl acc) : acc.length ≤ l.length + 1 := by
  have := lex_count l 1 1
  rw [h] at this
  simp only [List.length_append] at this
  omega
theorem Sofar.stop {l : List UInt8} {i ln cl : Nat} {acc : List Tok} (h : Sofar l i ln cl acc) (hi : l.length ≤ i) : lex l 1 1 = (acc ++ [⟨0, [], ln, cl⟩], none) := by
  unfold Sofar at h
  rw [List.drop_of_length_le hi, lex_nil] at h
  exact h
theorem Sofar.line {l : List UInt8} {i ln cl : Nat} {acc : List Tok} (h : Sofar l i ln cl acc) (hi : i < l.length) (hc : l.getD i 0 = 10) : Sofar l (i + 1) (ln + 1) 1 acc := by
  have hp : piece (l.drop i) = 1 := piece_gap hi (by rw [hc]; decide)
  unfold Sofar at h ⊢
  rw [drop_cons0 hi] at h hp
  rw [lex_skip (by rw [hc]; decide), hp, hc] at h
  exact h
theorem Sofar.skip {l : List UInt8} {i k ln cl : Nat} {acc : List Tok} (h : Sofar l i ln cl acc) (hi : i < l.length) (hs : skips (l.getD i 0) = true) (hc : l.getD i 0 ≠ 10) (hik : i < k) (hp : piece (l.drop i) = k - i) : Sofar l k ln (cl + (k - i)) acc := by
  have e : l.drop k = (l.drop i).drop (k - i) := by rw [List.drop_drop, show i + (k - i) = k by omega]
  have hb : ¬ (l.getD i 0 == 10) = true := by simpa using hc
  unfold Sofar at h ⊢
  rw [e]
  rw [drop_cons0 hi] at h hp ⊢
  rw [lex_skip hs, hp, if_neg hb, if_neg hb] at h
  exact h
theorem Sofar.bad {l : List UInt8} {i k ln cl : Nat} {acc : List Tok} (h : Sofar l i ln cl acc) (hi : i < l.length) (hs : skips (l.getD i 0) = false) (hp : piece (l.drop i) = k - i) (hk : kd ((l.drop i).take (k - i)) = 0) : lex l 1 1 = (acc, some (ln, cl)) := by
  unfold Sofar at h
  rw [drop_cons0 hi] at h hp hk
  rw [lex_bad hs (by rw [hp]; exact hk), List.append_nil] at h
  exact h
theorem Sofar.tok {l : List UInt8} {i k ln cl : Nat} {acc : List Tok} (h : Sofar l i ln cl acc) (hi : i < l.length) (hs : skips (l.getD i 0) = false) (hik : i < k) (hp : piece (l.drop i) = k - i) (hk : kd ((l.drop i).take (k - i)) ≠ 0) :
    Sofar l k ln (cl + (k - i)) (acc ++ [⟨kd ((l.drop i).take (k - i)), (l.drop i).take (k - i), ln, cl⟩]) := by
  have e : l.drop k = (l.drop i).drop (k - i) := by rw [List.drop_drop, show i + (k - i) = k by omega]
  unfold Sofar at h ⊢
  rw [e]
  rw [drop_cons0 hi] at h hp hk ⊢
  rw [lex_tok hs (by rw [hp]; exact hk), hp] at h
  rw [List.append_assoc]
  exact h
/-- The answer, told by what lex finds. -/
theorem lexed_great {l : List UInt8} (h : 8192 < l.length) : lexed l = ([], 6, 1, 1) := by unfold lexed; rw [if_pos h]
theorem lexed_bad {l : List UInt8} {acc : List Tok} {a b : Nat} (h : l.length ≤ 8192) (hl : lex l 1 1 = (acc, some (a, b))) : lexed l = ([], 3, a, b) := by unfold lexed; rw [if_neg (by omega), hl]
theorem lexed_ok {l : List UInt8} {acc : List Tok} (h : l.length ≤ 8192) (hl : lex l 1 1 = (acc, none)) : lexed l = (acc, 0, 0, 0) := by unfold lexed; rw [if_neg (by omega), hl]
end Go.Proofs.Ytcigholifpmdjaa.P

/- A number's text cut at its point, and a rest's digits without the noughts at their end, as plain arithmetic: no program is named here. -/
import Derived.Test.YtcigholifpmdjaaDecQ
import Derived.Lib.IndexMore
import Derived.Lib.TrimByte
namespace Go.Proofs.Ytcigholifpmdjaa.P
open Go.RowKit

theorem occ_one (l : List UInt8) (c : UInt8) (j : Nat) : Lib.occAt l [c] j = (l[j]? == some c) := by
  unfold Lib.occAt
  cases h : l.drop j with
  | nil =>
    have : l.length ≤ j := List.drop_eq_nil_iff.1 h
    rw [List.getElem?_eq_none this]
    rfl
  | cons a t =>
    have e : l[j]? = some a := by
      have := congrArg (·[0]?) h
      simpa using this
    rw [e]
    simp [List.isPrefixOf, BEq.comm]
/-- What a cut at one letter answers. -/
theorem cut_one (l : List UInt8) (c : UInt8) : (c ∉ l ∧ Lib.cut l [c] = (l, [], false)) ∨ (∃ a b, l = a ++ c :: b ∧ c ∉ a ∧ Lib.cut l [c] = (a, b, true)) := by
  rcases Lib.index_spec l [c] with ⟨h1, h2⟩ | ⟨i, h1, h2, h3, h4⟩
  · refine .inl ⟨fun hm => ?_, by unfold Lib.cut; rw [h1]; rfl⟩
    obtain ⟨j, hj, e⟩ := List.getElem_of_mem hm
    have := h2 j (by omega)
    rw [occ_one, List.getElem?_eq_getElem hj, e] at this
    simp at this
  · rw [occ_one] at h3
    have h3' : l[i]? = some c := by simpa using h3
    obtain ⟨hi, e⟩ := List.getElem?_eq_some_iff.1 h3'
    refine .inr ⟨l.take i, l.drop (i + 1), ?_, fun hm => ?_, ?_⟩
    · conv => lhs; rw [← List.take_append_drop i l, List.drop_eq_getElem_cons hi, e]
    · obtain ⟨j, hj, e2⟩ := List.getElem_of_mem hm
      rw [List.length_take] at hj
      have h5 := h4 j (by omega)
      rw [occ_one, List.getElem?_eq_getElem (by omega)] at h5
      rw [List.getElem_take] at e2
      rw [e2] at h5
      simp at h5
    · unfold Lib.cut
      rw [h1, if_pos (by omega)]
      rfl
/-- Whether letters are of the form Whole. -/
def pl (a : List UInt8) : Bool := a.all isDg && !a.isEmpty && (decide (a.length = 1) || !(a.getD 0 0 == 48))
theorem pl_oddHead {a : List UInt8} (h : pl a = true) : a.all isDg = true ∧ a ≠ [] ∧ oddHead a = false := by
  unfold pl at h
  simp only [Bool.and_eq_true, Bool.or_eq_true, Bool.not_eq_true', decide_eq_true_eq, List.isEmpty_eq_false_iff] at h
  refine ⟨h.1.1, h.1.2, ?_⟩
  unfold oddHead
  rcases h.2 with k | k
  · rw [decide_eq_false (by omega : ¬ 1 < a.length)]; simp
  · rw [k]; rfl
theorem pl_of {a : List UInt8} (h1 : a.all isDg = true) (h2 : a ≠ []) (h3 : a.length = 1 ∨ a.getD 0 0 ≠ 48) : pl a = true := by
  unfold pl
  simp only [Bool.and_eq_true, Bool.or_eq_true, Bool.not_eq_true', decide_eq_true_eq, List.isEmpty_eq_false_iff]
  exact ⟨⟨h1, h2⟩, h3.imp id (fun h => by simpa using h)⟩
theorem dp_dg {l : List UInt8} (h : l.all isDp = true) (hn : (46 : UInt8) ∉ l) : l.all isDg = true := by
  rw [List.all_eq_true] at *
  intro b hb
  have := h b hb
  unfold isDp at this
  simp only [Bool.or_eq_true, beq_iff_eq] at this
  rcases this with k | k
  · exact k
  · subst k; exact absurd hb hn
theorem fm_facts {l : List UInt8} (h : fm l ≠ 0) : isDg (l.getD 0 0) = true ∧ l.all isDp = true ∧ l.count 46 ≤ 1 ∧ (l.getLast? == some 46) = false ∧ oddHead l = false := by
  have h0 : isDg (l.getD 0 0) = true := by
    cases k : isDg (l.getD 0 0)
    · exact absurd (fm_first k) h
    · rfl
  have h1 : evenBody l = true := by
    cases k : evenBody l
    · exact absurd (fm_body k) h
    · rfl
  have h2 : oddHead l = false := by
    cases k : oddHead l
    · rfl
    · exact absurd (fm_head k) h
  unfold evenBody at h1
  simp only [Bool.and_eq_true, decide_eq_true_eq, Bool.not_eq_true'] at h1
  exact ⟨h0, h1.1, h1.2.1, h1.2.2, h2⟩
theorem odd_at {a : List UInt8} (h : oddHead a = false) : a.length ≤ 1 ∨ a.getD 0 0 ≠ 48 ∨ a.getD 1 0 = 46 := by
  unfold oddHead at h
  by_cases h1 : a.getD 0 0 = 48
  · by_cases h2 : 1 < a.length
    · rw [h1, decide_eq_true h2] at h
      simp at h
      exact .inr (.inr (by simpa using h))
    · exact .inl (by omega)
  · exact .inr (.inl h1)
theorem fm_cut_no {l : List UInt8} (h : (46 : UInt8) ∉ l) : fm l = if pl l then 1 else 0 := by
  cases k : pl l
  · rw [if_neg (by simp)]
    by_cases hf : fm l = 0
    · exact hf
    · exfalso
      obtain ⟨f0, f1, _, _, f4⟩ := fm_facts hf
      have hne : l ≠ [] := by rintro rfl; rw [getD_nil0] at f0; cases f0
      have hlen : 0 < l.length := List.length_pos_iff.2 hne
      have := pl_of (dp_dg f1 h) hne (by
        rcases odd_at f4 with k | k | k
        · left; omega
        · exact .inr k
        · by_cases h1 : 1 < l.length
          · exact absurd (k ▸ mem_getD h1) h
          · left; omega)
      rw [k] at this
      cases this
  · obtain ⟨a, b, c⟩ := pl_oddHead k
    rw [fm_whole a b c]; rfl
theorem fm_cut_yes {a b : List UInt8} (h : (46 : UInt8) ∉ a) : fm (a ++ 46 :: b) = if pl a && (b.all isDg && !b.isEmpty) then 2 else 0 := by
  cases k : pl a && (b.all isDg && !b.isEmpty)
  · rw [if_neg (by simp)]
    by_cases hf : fm (a ++ 46 :: b) = 0
    · exact hf
    · exfalso
      obtain ⟨f0, f1, f2, f3, f4⟩ := fm_facts hf
      have hne : a ≠ [] := by
        rintro rfl
        revert f0
        simp
        decide
      have hlen : 0 < a.length := List.length_pos_iff.2 hne
      rw [List.all_append, List.all_cons, Bool.and_eq_true, Bool.and_eq_true] at f1
      rw [List.count_append, List.count_cons_self] at f2
      have hb : (46 : UInt8) ∉ b := by rw [← List.count_eq_zero]; omega
      have hbne : b ≠ [] := by
        rintro rfl
        simp at f3
      have hp := pl_of (dp_dg f1.1 h) hne (by
        rcases odd_at f4 with q | q | q
        · simp at q; left; omega
        · rw [getD_app hlen] at q; exact .inr q
        · by_cases h1 : 1 < a.length
          · rw [getD_app h1] at q; exact absurd (q ▸ mem_getD h1) h
          · left; omega)
      rw [hp, dp_dg f1.2.2 hb] at k
      cases b
      · exact hbne rfl
      · cases k
  · simp only [Bool.and_eq_true, Bool.not_eq_true', List.isEmpty_eq_false_iff] at k
    obtain ⟨x, y, z⟩ := pl_oddHead k.1
    rw [fm_point x y z k.2.1 k.2.2]; rfl
theorem stV_cut {a b : List UInt8} (hb : b.all isDg = true) : stV (a ++ 46 :: b) = stV (a ++ b) := by
  rw [show a ++ 46 :: b = (a ++ [46]) ++ b by simp, stV_digits _ _ hb, stV_point, stV_digits _ _ hb]
theorem stB_cut {a b : List UInt8} (hb : b.all isDg = true) : stB (a ++ 46 :: b) = b.length := by
  rw [show a ++ 46 :: b = (a ++ [46]) ++ b by simp, stB_digits _ _ hb, stB_point, if_pos (by omega)]; omega
theorem stB_plain {a : List UInt8} (ha : a.all isDg = true) : stB a = -1 := by
  have := stB_digits a [] ha
  rw [List.nil_append] at this
  rw [this]; rfl

/-! The rest's digits. -/
/-- So many last digits of a number. -/
def dgs (n : Nat) : Nat → List UInt8
  | 0 => []
  | k + 1 => dch (n / 10 ^ k % 10) :: dgs n k
theorem dgs_length (n : Nat) : ∀ k, (dgs n k).length = k
  | 0 => rfl
  | k + 1 => by rw [dgs, List.length_cons, dgs_length n k]
theorem dgs_snoc (n : Nat) : ∀ k, dgs n (k + 1) = dgs (n / 10) k ++ [dch (n % 10)]
  | 0 => by simp [dgs]
  | k + 1 => by
    rw [dgs, dgs_snoc n k, dgs, List.cons_append, Nat.div_div_eq_div_mul, Nat.pow_succ, Nat.mul_comm 10]
theorem dec_dgs : ∀ (k n : Nat), Lib.decDigits (10 ^ k + n % 10 ^ k) = 49 :: dgs n k
  | 0, n => by
    rw [Nat.pow_zero, Nat.mod_one, dec_last (by omega)]
    rfl
  | k + 1, n => by
    have hpos : 0 < 10 ^ k := Nat.pow_pos (by omega)
    have e1 : n % (10 ^ k * 10) = 10 * (n / 10 % 10 ^ k) + n % 10 := by rw [Nat.mul_comm, Nat.mod_mul]; omega
    have hge : ¬ 10 ^ (k + 1) + n % 10 ^ (k + 1) < 10 := by rw [Nat.pow_succ]; omega
    rw [dec_more hge, Nat.pow_succ, e1]
    have hm := Nat.mod_lt n (by omega : 0 < 10)
    rw [show (10 ^ k * 10 + (10 * (n / 10 % 10 ^ k) + n % 10)) / 10 = 10 ^ k + n / 10 % 10 ^ k by omega,
      show (10 ^ k * 10 + (10 * (n / 10 % 10 ^ k) + n % 10)) % 10 = n % 10 by omega, dec_dgs k (n / 10), dgs_snoc]
    rfl
theorem trimR_cons (c d : UInt8) (l : List UInt8) : Lib.trimRightB (d :: l) c = if Lib.trimRightB l c = [] then (if d = c then [] else [d]) else d :: Lib.trimRightB l c := by
  unfold Lib.trimRightB
  rw [List.reverse_cons, List.dropWhile_append]
  by_cases h : (l.reverse.dropWhile (· == c)) = []
  · rw [h]
    by_cases hd : d = c
    · subst hd; simp
    · simp [hd]
  · rw [if_neg (by simpa using h), if_neg (by simpa using h)]
    simp
theorem dch_48 {k : Nat} (h : k < 10) : dch k = 48 ↔ k = 0 := by
  have := dig_toNat h
  constructor
  · intro e
    rw [e] at this
    have h2 : (48 : UInt8).toNat = 48 := rfl
    omega
  · rintro rfl; rfl
theorem trim_dgs (n : Nat) : ∀ k, Lib.trimRightB (dgs n k) 48 = fs n k
  | 0 => rfl
  | k + 1 => by
    have hd := @dch_48 (n / 10 ^ k % 10) (Nat.mod_lt _ (by decide))
    rw [dgs, trimR_cons, trim_dgs n k]
    by_cases h : fs n k = []
    · rw [if_pos h]
      by_cases h2 : n / 10 ^ k % 10 = 0
      · rw [if_pos (hd.2 h2), fs_no h h2]
      · rw [if_neg (fun e => h2 (hd.1 e)), fs_yes (.inr h2), h]
    · rw [if_neg h, fs_yes (.inl h)]
theorem fs_nil_iff (n : Nat) : ∀ k, fs n k = [] ↔ n % 10 ^ k = 0
  | 0 => by simp [fs, Nat.mod_one]
  | k + 1 => by
    have hpos : 0 < 10 ^ k := Nat.pow_pos (by omega)
    rw [Nat.pow_succ, Nat.mod_mul]
    constructor
    · intro h
      by_cases h1 : fs n k = []
      · by_cases h2 : n / 10 ^ k % 10 = 0
        · rw [(fs_nil_iff n k).1 h1, h2]; rfl
        · rw [fs_yes (.inr h2)] at h; cases h
      · rw [fs_yes (.inl h1)] at h; cases h
    · intro h
      have h1 : n % 10 ^ k = 0 := by omega
      have h3 : 10 ^ k * (n / 10 ^ k % 10) = 0 := by omega
      have h2 : n / 10 ^ k % 10 = 0 := by
        rcases Nat.mul_eq_zero.1 h3 with q | q
        · omega
        · exact q
      exact fs_no ((fs_nil_iff n k).2 h1) h2
theorem tx_whole {n p : Nat} (h : n % 10 ^ p = 0) : tx n p = Lib.decDigits (n / 10 ^ p) := by
  unfold tx
  rw [tail_no ((fs_nil_iff n p).2 h), List.append_nil]
theorem tx_rest {n p : Nat} (h : n % 10 ^ p ≠ 0) : tx n p = Lib.decDigits (n / 10 ^ p) ++ [46] ++ Lib.trimRightB ((Lib.decDigits (10 ^ p + n % 10 ^ p)).drop 1) 48 := by
  unfold tx
  rw [tail_yes (fun e => h ((fs_nil_iff n p).1 e)), dec_dgs, List.drop_one, List.tail_cons, trim_dgs]
  simp
end Go.Proofs.Ytcigholifpmdjaa.P

/- What a number's shortest text tells, as plain arithmetic: no program is named here. -/
import Derived.Test.YtcigholifpmdjaaDecT
namespace Go.Proofs.Ytcigholifpmdjaa.P
open Go.RowKit

theorem isDg_dch {k : Nat} (h : k < 10) : isDg (dch k) = true := by rw [isDg_iff, dig_toNat h]; omega
/-- Digits behind letters. -/
theorem stB_digits : ∀ (b a : List UInt8), b.all isDg = true → stB (a ++ b) = if 0 ≤ stB a then stB a + b.length else stB a
  | [], a, _ => by simp
  | c :: t, a, h => by
    rw [List.all_cons, Bool.and_eq_true] at h
    have hc := isDg_no46 h.1
    rw [show a ++ c :: t = (a ++ [c]) ++ t by simp, stB_digits t (a ++ [c]) h.2, stB_snoc, if_neg hc]
    by_cases h0 : 0 ≤ stB a
    · rw [if_pos h0, if_pos h0, if_pos (by omega), List.length_cons]; omega
    · rw [if_neg h0, if_neg h0, if_neg h0]
theorem stV_digits : ∀ (b a : List UInt8), b.all isDg = true → stV (a ++ b) = stV a * 10 ^ b.length + stV b
  | [], a, _ => by simp [stV]
  | c :: t, a, h => by
    rw [List.all_cons, Bool.and_eq_true] at h
    have hc := isDg_no46 h.1
    have e := stV_digits t [c] h.2
    rw [show a ++ c :: t = (a ++ [c]) ++ t by simp, stV_digits t (a ++ [c]) h.2, stV_snoc, if_neg hc, show c :: t = [c] ++ t from rfl, e, show stV [c] = 10 * 0 + (c.toNat - 48) by
      have := stV_snoc [] c
      rw [if_neg hc] at this
      exact this]
    rw [List.length_append, List.length_singleton, Nat.add_comm 1, Nat.pow_succ]
    generalize 10 ^ t.length = y
    generalize c.toNat - 48 = d
    generalize stV a = x
    generalize stV t = z
    grind
theorem stV_point (a : List UInt8) : stV (a ++ [46]) = stV a := by rw [stV_snoc, if_pos rfl]
theorem stB_point (a : List UInt8) : stB (a ++ [46]) = 0 := by rw [stB_snoc, if_pos rfl]
theorem dec_digits (q : Nat) : (Lib.decDigits q).all isDg = true := by
  induction q using Nat.strongRecOn with
  | _ q ih =>
    by_cases h : q < 10
    · rw [dec_last h]; simp [isDg_dch h]
    · rw [dec_more h, List.all_append, ih (q / 10) (by omega)]
      simp [isDg_dch (Nat.mod_lt q (by decide : 0 < 10))]
theorem dec_value (q : Nat) : stV (Lib.decDigits q) = q := by
  induction q using Nat.strongRecOn with
  | _ q ih =>
    have s1 : ∀ k, k < 10 → ∀ a, stV (a ++ [dch k]) = 10 * stV a + k := fun k hk a => by
      rw [stV_snoc, if_neg (isDg_no46 (isDg_dch hk)), dig_toNat hk]; omega
    by_cases h : q < 10
    · rw [dec_last h]
      have := s1 q h []
      simpa [stV] using this
    · rw [dec_more h, s1 (q % 10) (Nat.mod_lt q (by decide)), ih (q / 10) (by omega)]
      omega
theorem dec_ne (q : Nat) : Lib.decDigits q ≠ [] := by
  intro h
  have := Lib.decDigits_length q
  rw [h] at this
  have := Lib.nDigits_pos q
  simp at *
  omega
theorem dec_head (q : Nat) : (Lib.decDigits q).getD 0 0 = 48 → q = 0 := by
  induction q using Nat.strongRecOn with
  | _ q ih =>
    intro h
    by_cases hq : q < 10
    · rw [dec_last hq] at h
      have : (dch q).toNat = 48 := by rw [show dch q = 48 from h]; rfl
      rw [dig_toNat hq] at this
      omega
    · rw [dec_more hq] at h
      have hn := dec_ne (q / 10)
      have e : (Lib.decDigits (q / 10) ++ [dch (q % 10)]).getD 0 0 = (Lib.decDigits (q / 10)).getD 0 0 := by
        cases hl : Lib.decDigits (q / 10) with
        | nil => exact absurd hl hn
        | cons a t => rfl
      rw [e] at h
      have := ih (q / 10) (by omega) h
      omega
theorem fs_digits (n : Nat) : ∀ k, (fs n k).all isDg = true
  | 0 => rfl
  | k + 1 => by
    rw [fs]
    split
    · rw [List.all_cons, fs_digits n k, isDg_dch (Nat.mod_lt _ (by decide))]; rfl
    · rfl
theorem fs_value (n : Nat) : ∀ k, stV (fs n k) * 10 ^ (k - (fs n k).length) = n % 10 ^ k
  | 0 => by simp [fs, stV, Nat.mod_one]
  | k + 1 => by
    have ih := fs_value n k
    have hl := fs_length n k
    have hm : n % 10 ^ (k + 1) = n / 10 ^ k % 10 * 10 ^ k + n % 10 ^ k := by
      rw [Nat.pow_succ, Nat.mod_mul]
      rw [Nat.mul_comm (10 ^ k), Nat.add_comm]
    by_cases h : fs n k ≠ [] ∨ n / 10 ^ k % 10 ≠ 0
    · have hc : n / 10 ^ k % 10 < 10 := Nat.mod_lt _ (by decide)
      rw [fs_yes h, show dch (n / 10 ^ k % 10) :: fs n k = [dch (n / 10 ^ k % 10)] ++ fs n k from rfl, stV_digits _ _ (fs_digits n k), List.length_append, List.length_singleton, hm, ← ih,
        show k + 1 - (1 + (fs n k).length) = k - (fs n k).length by omega,
        show stV [dch (n / 10 ^ k % 10)] = n / 10 ^ k % 10 by
          have := stV_snoc [] (dch (n / 10 ^ k % 10))
          rw [if_neg (isDg_no46 (isDg_dch hc)), dig_toNat hc] at this
          simpa [stV] using this, Nat.add_mul, Nat.mul_assoc, ← Nat.pow_add, show (fs n k).length + (k - (fs n k).length) = k by omega]
    · have h1 : fs n k = [] := by
        rcases Decidable.em (fs n k = []) with a | a
        · exact a
        · exact absurd (.inl a) h
      have h2 : n / 10 ^ k % 10 = 0 := by
        rcases Decidable.em (n / 10 ^ k % 10 = 0) with a | a
        · exact a
        · exact absurd (.inr a) h
      rw [h1] at ih
      rw [fs_no h1 h2, hm, h2, ← ih]
      simp [stV]
theorem fs_last (n : Nat) : ∀ k, fs n k ≠ [] → ∃ a c, fs n k = a ++ [c] ∧ c ≠ 48
  | 0, h => absurd rfl h
  | k + 1, h => by
    have hc : n / 10 ^ k % 10 < 10 := Nat.mod_lt _ (by decide)
    by_cases h1 : fs n k = []
    · have h2 : n / 10 ^ k % 10 ≠ 0 := fun e => h (fs_no h1 e)
      rw [fs_yes (.inr h2), h1]
      refine ⟨[], _, rfl, fun e => ?_⟩
      have := congrArg UInt8.toNat e
      rw [dig_toNat hc] at this
      have e48 : (48 : UInt8).toNat = 48 := rfl
      omega
    · obtain ⟨a, c, e, hc2⟩ := fs_last n k h1
      rw [fs_yes (.inl h1), e]
      exact ⟨_ :: a, c, rfl, hc2⟩
theorem dg_dp {l : List UInt8} (h : l.all isDg = true) : l.all isDp = true := by
  rw [List.all_eq_true] at h ⊢
  intro x hx
  unfold isDp
  rw [h x hx]
  rfl
theorem dg_count {l : List UInt8} (h : l.all isDg = true) : l.count 46 = 0 := by
  rw [List.count_eq_zero]
  intro k
  rw [List.all_eq_true] at h
  exact isDg_no46 (h _ k) rfl
theorem dg_last {l : List UInt8} (h : l.all isDg = true) : (l.getLast? == some 46) = false := by
  rw [beq_eq_false_iff_ne]
  intro k
  rw [List.all_eq_true] at h
  exact isDg_no46 (h _ (List.mem_of_getLast? k)) rfl
theorem dg_first {l : List UInt8} (h : l.all isDg = true) (hne : l ≠ []) : isDg (l.getD 0 0) = true := by
  cases l with
  | nil => exact absurd rfl hne
  | cons a t => rw [List.all_cons, Bool.and_eq_true] at h; exact h.1
/-- Digits ahead, then the point, then digits: the form of a text. -/
theorem fm_whole {a : List UInt8} (ha : a.all isDg = true) (hne : a ≠ []) (hh : oddHead a = false) : fm a = 1 := by
  rw [fm_is (dg_first ha hne) (by unfold evenBody; rw [dg_dp ha, dg_count ha, dg_last ha]; rfl) hh, dg_count ha]
theorem getD_app {a b : List UInt8} {i : Nat} (h : i < a.length) : (a ++ b).getD i 0 = a.getD i 0 := by
  rw [List.getD_eq_getElem?_getD, List.getElem?_append_left h, ← List.getD_eq_getElem?_getD]
theorem getD_len {a b : List UInt8} : (a ++ b).getD a.length 0 = b.getD 0 0 := by
  rw [List.getD_eq_getElem?_getD, List.getElem?_append_right (Nat.le_refl _), Nat.sub_self, ← List.getD_eq_getElem?_getD]
theorem head_point {a b : List UInt8} (hne : a ≠ []) (hh : oddHead a = false) : oddHead (a ++ 46 :: b) = false := by
  have hl : 0 < a.length := List.length_pos_iff.2 hne
  unfold oddHead at hh ⊢
  rw [getD_app hl]
  by_cases h1 : 1 < a.length
  · rw [getD_app h1]
    rw [decide_eq_true h1] at hh
    rw [decide_eq_true (by simp; omega)]
    exact hh
  · have e : a.length = 1 := by omega
    have := getD_len (a := a) (b := 46 :: b)
    rw [e] at this
    rw [this]
    simp
theorem fm_point {a b : List UInt8} (ha : a.all isDg = true) (hne : a ≠ []) (hh : oddHead a = false) (hb : b.all isDg = true) (hb0 : b ≠ []) : fm (a ++ 46 :: b) = 2 := by
  have hl : 0 < a.length := List.length_pos_iff.2 hne
  have hc : (a ++ 46 :: b).count 46 = 1 := by rw [List.count_append, dg_count ha, List.count_cons_self, dg_count hb]
  have hlast : (a ++ 46 :: b).getLast? = b.getLast? := by
    rw [List.getLast?_append, List.getLast?_cons]
    cases h : b.getLast? with
    | none => exact absurd (List.getLast?_eq_none_iff.1 h) hb0
    | some x => rfl
  rw [fm_is (by rw [getD_app hl]; exact dg_first ha hne) (by
    unfold evenBody
    rw [hc, hlast, dg_last hb, List.all_append, dg_dp ha, List.all_cons, dg_dp hb]
    rfl) (head_point hne hh), hc]
theorem dec_oddHead (q : Nat) : oddHead (Lib.decDigits q) = false := by
  unfold oddHead
  by_cases h : (Lib.decDigits q).getD 0 0 = 48
  · have hq := dec_head q h
    subst hq
    rw [dec_last (by omega)]
    rfl
  · rw [beq_eq_false_iff_ne.2 h]; rfl
theorem tail_no {n p : Nat} (h : fs n p = []) : tail n p = [] := by unfold tail; rw [if_pos h]
theorem tail_yes {n p : Nat} (h : fs n p ≠ []) : tail n p = 46 :: fs n p := by unfold tail; rw [if_neg h]
theorem tx_fm (n p : Nat) : fm (tx n p) = if fs n p = [] then 1 else 2 := by
  unfold tx
  by_cases h : fs n p = []
  · rw [tail_no h, List.append_nil, if_pos h]
    exact fm_whole (dec_digits _) (dec_ne _) (dec_oddHead _)
  · rw [tail_yes h, if_neg h]
    exact fm_point (dec_digits _) (dec_ne _) (dec_oddHead _) (fs_digits n p) h
theorem stB_dec (q : Nat) : stB (Lib.decDigits q) = -1 := by
  have := stB_digits (Lib.decDigits q) [] (dec_digits q)
  simpa [stB] using this
theorem tx_stB (n p : Nat) : stB (tx n p) = if fs n p = [] then -1 else ((fs n p).length : Int) := by
  unfold tx
  by_cases h : fs n p = []
  · rw [tail_no h, List.append_nil, if_pos h, stB_dec]
  · rw [tail_yes h, if_neg h, show Lib.decDigits (n / 10 ^ p) ++ 46 :: fs n p = (Lib.decDigits (n / 10 ^ p) ++ [46]) ++ fs n p by simp, stB_digits _ _ (fs_digits n p), stB_point, if_pos (by omega)]
    omega
theorem tx_stV (n p : Nat) : stV (tx n p) * 10 ^ (p - (fs n p).length) = n := by
  have hv := fs_value n p
  have hl := fs_length n p
  unfold tx
  by_cases h : fs n p = []
  · rw [h] at hv
    rw [tail_no h, List.append_nil, dec_value, h]
    have h0 : n % 10 ^ p = 0 := by rw [← hv]; simp [stV]
    have := Nat.div_add_mod n (10 ^ p)
    rw [h0, Nat.mul_comm] at this
    simpa using this
  · rw [tail_yes h, show Lib.decDigits (n / 10 ^ p) ++ 46 :: fs n p = (Lib.decDigits (n / 10 ^ p) ++ [46]) ++ fs n p by simp, stV_digits _ _ (fs_digits n p), stV_point, dec_value, Nat.add_mul, hv, Nat.mul_assoc, ← Nat.pow_add,
      show (fs n p).length + (p - (fs n p).length) = p by omega, Nat.mul_comm]
    exact Nat.div_add_mod n (10 ^ p)
theorem tx_pK (n p : Nat) : pK (tx n p) p = p - (fs n p).length := by
  have hl := fs_length n p
  unfold pK
  rw [tx_stB]
  by_cases h : fs n p = []
  · rw [if_pos h, h]; simp; omega
  · rw [if_neg h]; omega
theorem tx_pV (n p : Nat) : pV (tx n p) p = (n : Int) := by
  unfold pV
  rw [tx_pK]
  have := tx_stV n p
  exact_mod_cast this
theorem tx_pBad {n p : Nat} (hp : p ≤ 9) : pBad (tx n p) p = false := by
  have hl := fs_length n p
  unfold pBad
  rw [decide_eq_false_iff_not, tx_fm, tx_stB]
  by_cases h : fs n p = []
  · rw [if_pos h, if_pos h]; omega
  · rw [if_neg h, if_neg h]; omega
/-- A number's text is read as it. -/
theorem tx_back {n p : Nat} (hp : p ≤ 9) (most : Int) (hI : I64 (n : Int)) (hm : (n : Int) ≤ most) : pN (tx n p) p most = n ∧ pW (tx n p) p most = 0 := by
  unfold pN pW pGreat
  rw [tx_pBad hp, tx_pV, ok64_t hI, decide_eq_false (by omega)]
  exact ⟨rfl, rfl⟩
theorem tx_last {n p : Nat} (h : fm (tx n p) ≠ 1) : ∃ a c, tx n p = a ++ [c] ∧ c ≠ 48 := by
  have hf : fs n p ≠ [] := fun e => h (by rw [tx_fm, if_pos e])
  obtain ⟨a, c, e, hc⟩ := fs_last n p hf
  refine ⟨Lib.decDigits (n / 10 ^ p) ++ 46 :: a, c, ?_, hc⟩
  unfold tx
  rw [tail_yes hf, e]
  simp
/-- With a place more. -/
theorem pV_more {l : List UInt8} {p : Int} (h : max (stB l) 0 ≤ p) : pV l (p + 1) = 10 * pV l p := by
  unfold pV pK
  rw [show (p + 1 - max (stB l) 0).toNat = (p - max (stB l) 0).toNat + 1 by omega, Int.pow_succ, ← Int.mul_assoc, Int.mul_comm]

/-! Noughts more behind the point. -/
/-- The digits behind the point, at least one. -/
def f0 (n p : Nat) : List UInt8 := if fs n p = [] then [48] else fs n p
def bs (n p : Nat) : List UInt8 := Lib.decDigits (n / 10 ^ p) ++ 46 :: f0 n p
def zs (k : Nat) : List UInt8 := List.replicate k 48
theorem f0_digits (n p : Nat) : (f0 n p).all isDg = true := by
  unfold f0
  split
  · decide
  · exact fs_digits n p
theorem f0_ne (n p : Nat) : f0 n p ≠ [] := by
  unfold f0
  split
  · simp
  · assumption
theorem f0_le {n p : Nat} (hp : 1 ≤ p) : (f0 n p).length ≤ p := by
  have := fs_length n p
  unfold f0
  split
  · simpa using hp
  · exact this
theorem f0_value {n p : Nat} : stV (f0 n p) * 10 ^ (p - (f0 n p).length) = n % 10 ^ p := by
  have h := fs_value n p
  unfold f0
  split
  · rename_i e
    rw [e] at h
    rw [← h]
    simp [stV]
  · exact h
theorem tx_bs_whole {n p : Nat} (h : fs n p = []) : tx n p ++ [46, 48] = bs n p := by unfold tx bs f0; rw [tail_no h, if_pos h, List.append_nil]
theorem tx_bs {n p : Nat} (h : fs n p ≠ []) : tx n p = bs n p := by unfold tx bs f0; rw [tail_yes h, if_neg h]
theorem zs_digits (k : Nat) : (zs k).all isDg = true := by
  rw [List.all_eq_true]
  intro x hx
  rw [List.eq_of_mem_replicate hx]
  decide
theorem zs_value : ∀ k, stV (zs k) = 0
  | 0 => rfl
  | k + 1 => by
    have := stV_digits (zs k) [48] (zs_digits k)
    rw [show zs (k + 1) = [48] ++ zs k from rfl, this, zs_value k, show stV [48] = 0 from rfl]
    simp
theorem zs_snoc (k : Nat) : zs (k + 1) = zs k ++ [48] := List.replicate_succ'
theorem bz_split (n p k : Nat) : bs n p ++ zs k = Lib.decDigits (n / 10 ^ p) ++ 46 :: (f0 n p ++ zs k) := by unfold bs; simp
theorem bz_digits (n p k : Nat) : (f0 n p ++ zs k).all isDg = true := by rw [List.all_append, f0_digits, zs_digits]; rfl
theorem bz_fm (n p k : Nat) : fm (bs n p ++ zs k) = 2 := by
  rw [bz_split]
  exact fm_point (dec_digits _) (dec_ne _) (dec_oddHead _) (bz_digits n p k) (by simp [f0_ne])
theorem bz_stB (n p k : Nat) : stB (bs n p ++ zs k) = ((f0 n p).length + k : Nat) := by
  rw [bz_split, show Lib.decDigits (n / 10 ^ p) ++ 46 :: (f0 n p ++ zs k) = (Lib.decDigits (n / 10 ^ p) ++ [46]) ++ (f0 n p ++ zs k) by simp, stB_digits _ _ (bz_digits n p k), stB_point, if_pos (by omega), List.length_append,
    show (zs k).length = k by simp [zs]]
  omega
theorem bz_stV (n p k : Nat) : stV (bs n p ++ zs k) = n / 10 ^ p * 10 ^ ((f0 n p).length + k) + stV (f0 n p) * 10 ^ k := by
  rw [bz_split, show Lib.decDigits (n / 10 ^ p) ++ 46 :: (f0 n p ++ zs k) = (Lib.decDigits (n / 10 ^ p) ++ [46]) ++ (f0 n p ++ zs k) by simp, stV_digits _ _ (bz_digits n p k), stV_point, dec_value, stV_digits _ _ (zs_digits k), zs_value,
    List.length_append, show (zs k).length = k by simp [zs]]
  omega
theorem bz_pV {n p k : Nat} (h : (f0 n p).length + k ≤ p) : pV (bs n p ++ zs k) p = (n : Int) := by
  unfold pV pK
  rw [bz_stB, show ((p : Int) - max (((f0 n p).length + k : Nat) : Int) 0).toNat = p - ((f0 n p).length + k) by omega]
  have hv := f0_value (n := n) (p := p)
  have e : stV (bs n p ++ zs k) * 10 ^ (p - ((f0 n p).length + k)) = n := by
    rw [bz_stV, Nat.add_mul, Nat.mul_assoc, Nat.mul_assoc, ← Nat.pow_add, ← Nat.pow_add, show (f0 n p).length + k + (p - ((f0 n p).length + k)) = p by omega, show k + (p - ((f0 n p).length + k)) = p - (f0 n p).length by omega, hv, Nat.mul_comm]
    exact Nat.div_add_mod n (10 ^ p)
  exact_mod_cast e
theorem bz_fine {n p k : Nat} (hp : p ≤ 9) (h : (f0 n p).length + k ≤ p) (most : Int) (hI : I64 (n : Int)) (hm : (n : Int) ≤ most) : pN (bs n p ++ zs k) p most = n ∧ pW (bs n p ++ zs k) p most = 0 := by
  have hb : pBad (bs n p ++ zs k) p = false := by
    unfold pBad
    rw [decide_eq_false_iff_not, bz_fm, bz_stB]
    omega
  unfold pN pW pGreat
  rw [hb, bz_pV h, ok64_t hI, decide_eq_false (by omega)]
  exact ⟨rfl, rfl⟩
theorem bz_bad {n p k : Nat} (h : p < (f0 n p).length + k) (most : Int) : pN (bs n p ++ zs k) p most = 0 ∧ pW (bs n p ++ zs k) p most = 1 := by
  have hb : pBad (bs n p ++ zs k) p = true := by
    unfold pBad
    rw [decide_eq_true_eq, bz_stB]
    omega
  unfold pN pW
  rw [hb]
  exact ⟨rfl, rfl⟩
/-- Where the point stands. -/
theorem bs_point (n p i : Nat) (hi : i < (bs n p).length) : (bs n p).getD i 0 = 46 ↔ i = (Lib.decDigits (n / 10 ^ p)).length := by
  have hd := dec_digits (n / 10 ^ p)
  have hf := f0_digits n p
  unfold bs at hi ⊢
  rcases Nat.lt_trichotomy i (Lib.decDigits (n / 10 ^ p)).length with h | h | h
  · constructor
    · intro e
      rw [getD_app h] at e
      rw [List.all_eq_true] at hd
      exact absurd e (isDg_no46 (hd _ (mem_getD h)))
    · omega
  · subst h
    rw [getD_len]
    simp
  · constructor
    · intro e
      rw [List.getD_eq_getElem?_getD, List.getElem?_append_right (by omega), ← List.getD_eq_getElem?_getD] at e
      obtain ⟨j, hj⟩ : ∃ j, i - (Lib.decDigits (n / 10 ^ p)).length = j + 1 := ⟨i - (Lib.decDigits (n / 10 ^ p)).length - 1, by omega⟩
      rw [hj, List.getD_cons_succ] at e
      have hjl : j < (f0 n p).length := by rw [List.length_append, List.length_cons] at hi; omega
      rw [List.all_eq_true] at hf
      exact absurd e (isDg_no46 (hf _ (mem_getD hjl)))
    · omega
end Go.Proofs.Ytcigholifpmdjaa.P

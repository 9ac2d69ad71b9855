/- Tokens with notes between them, lexed again: no program is named here. -/
import Derived.Test.YtcbeocpllnmcjaaJParJ
import Derived.Test.YtcbeocpllnmcjaaJShT
import Derived.KernelRfl
namespace Go.Proofs.Ytcbeocpllnmcjaa.P
open Go.RowKit
/-- Letters that are one token. -/
structure Whole (t : List UInt8) : Prop where
  some : t ≠ []
  kind : kd t ≠ 0
  skip : skips (t.getD 0 0) = false
  row : (isLt (t.getD 0 0) = true ∧ t.all isLt = true) ∨ (isLt (t.getD 0 0) = false ∧ t.length = 1)
theorem run_whole {p : UInt8 → Bool} (l m : List UInt8) {c : UInt8} (h : l.all p = true) (hc : p c = false) : run p (l ++ c :: m) = l.length := by
  rw [run_over l m hc]
  exact run_eq _ _ _ (Nat.le_refl _) (fun j hj => by
    rw [List.all_eq_true] at h
    refine h _ ?_
    rw [List.getD_eq_getElem?_getD, List.getElem?_eq_getElem hj]
    exact List.getElem_mem hj) (fun k => absurd k (Nat.lt_irrefl _))
theorem lex_one {t : List UInt8} (h : Whole t) (x : List UInt8) (ln cl : Nat) : lex (t ++ 32 :: x) ln cl = (⟨kd t, t, ln, cl⟩ :: (lex (32 :: x) ln (cl + t.length)).1, (lex (32 :: x) ln (cl + t.length)).2) := by
  obtain ⟨h1, h2, h3, h4⟩ := h
  cases t with
  | nil => exact absurd rfl h1
  | cons c r =>
    have h3' : skips c = false := h3
    have hs := h3'
    unfold skips at hs
    rw [Bool.or_eq_false_iff] at hs
    have hp : piece ((c :: r) ++ 32 :: x) = (c :: r).length := by
      rw [List.cons_append, piece_cons, if_neg (by rw [hs.1]; decide), if_neg (by rw [hs.2]; decide)]
      rcases h4 with ⟨a, b⟩ | ⟨a, b⟩
      · rw [if_pos (by exact a), run_whole r x (by rw [List.all_cons, Bool.and_eq_true] at b; exact b.2) (by decide)]
        rfl
      · rw [if_neg (by rw [show isLt c = false from a]; decide)]
        exact b.symm
    have ht : ((c :: r) ++ 32 :: x).take (c :: r).length = c :: r := List.take_left
    have hd : ((c :: r) ++ 32 :: x).drop (c :: r).length = 32 :: x := List.drop_left
    have := lex_tok (c := c) (r := r ++ 32 :: x) h3' (by rw [← List.cons_append, hp, ht]; exact h2) ln cl
    rw [← List.cons_append, hp, ht, hd] at this
    exact this
end Go.Proofs.Ytcbeocpllnmcjaa.P
/- Kinds of letters, asked in the order of the document's table: no program is named here. -/
namespace Go.Proofs.Ytcbeocpllnmcjaa.P
open Go.RowKit
/-- A letter that may stand in a name. -/
def isNm (b : UInt8) : Bool := decide (b.toNat = 95 ∨ (48 ≤ b.toNat ∧ b.toNat ≤ 57) ∨ (97 ≤ b.toNat ∧ b.toNat ≤ 122) ∨ (65 ≤ b.toNat ∧ b.toNat ≤ 90))
theorem isLt_dg {b : UInt8} (h : isDg b = true) : isLt b = true := by
  unfold isDg at h
  unfold isLt
  rw [decide_eq_true_eq] at h ⊢
  omega
theorem all_mono {p q : UInt8 → Bool} {l : List UInt8} (h : ∀ b, p b = true → q b = true) (a : l.all p = true) : l.all q = true := by
  rw [List.all_eq_true] at a ⊢
  exact fun b hb => h b (a b hb)
/-- Whether letters are of a name's form. -/
def nm (l : List UInt8) : Bool := (l.all isNm && !l.isEmpty) && !isDg (l.getD 0 0)
theorem fm_lt {l : List UInt8} (h : fm l ≠ 0) : l.all isLt = true ∧ l ≠ [] := by
  refine ⟨all_mono (fun b hb => ?_) (fm_all h), fun e => ?_⟩
  · unfold isDp at hb
    rw [Bool.or_eq_true] at hb
    rcases hb with h | h
    · exact isLt_dg h
    · rw [beq_iff_eq] at h; rw [h]; decide
  · rw [e] at h; exact h fm_empty
theorem reads_lt {l : List UInt8} (h : reads l = true) : l.all isLt = true ∧ l ≠ [] := by
  unfold reads formed at h
  simp only [Bool.and_eq_true, decide_eq_true_eq] at h
  obtain ⟨⟨⟨hl, h4, h7⟩, a, b, c⟩, _⟩ := h
  obtain ⟨x0, x1, x2, x3, x4, x5, x6, x7, x8, x9, rfl⟩ := ten hl
  have hd : ∀ b, isD b = true → isLt b = true := fun b hb => isLt_dg hb
  simp only [List.getD_cons_succ, List.getD_cons_zero] at h4 h7
  subst h4 h7
  simp only [List.take_succ_cons, List.take_zero, List.drop_succ_cons, List.drop_zero, List.all_cons, List.all_nil, Bool.and_true, Bool.and_eq_true] at a b c
  refine ⟨?_, by simp⟩
  simp only [List.all_cons, List.all_nil, Bool.and_true, Bool.and_eq_true]
  exact ⟨hd _ a.1, hd _ a.2.1, hd _ a.2.2.1, hd _ a.2.2.2, by decide, hd _ b.1, hd _ b.2, by decide, hd _ c.1, hd _ c.2⟩
/-- The kind, asked in the order of the table. -/
def kw (sg wd n : Bool) (f : Nat) (d : Bool) : Nat := if sg then 5 else if wd then 2 else if n then 1 else if f ≠ 0 then 3 else if d then 4 else 0
end Go.Proofs.Ytcbeocpllnmcjaa.P
/- What the letters of a text's tokens say of their kinds, and what a reader that has gone wrong sees: the end alone. Pure: no program is named here. -/
namespace Go.Proofs.Ytcbeocpllnmcjaa.P
open Go.RowKit Mm
/-- Each token is of the kind that its letters are; the end has none. -/
def Knd (ts : List Tok) : Prop := ∀ t ∈ ts, kd t.t = t.k ∧ (t.k = 0 → t.t = [])
theorem kd_nil : kd [] = 0 := by decide
theorem lx_knd (n : Nat) (l : List UInt8) (ln cl : Nat) : Knd (lx n l ln cl).1 := by
  induction n generalizing l ln cl with
  | zero => intro t ht; rw [List.mem_singleton.1 ht]; exact ⟨kd_nil, fun _ => rfl⟩
  | succ n ih =>
    cases l with
    | nil => intro t ht; rw [List.mem_singleton.1 ht]; exact ⟨kd_nil, fun _ => rfl⟩
    | cons c r =>
      unfold lx
      split
      · exact ih _ _ _
      · split
        · intro t ht; cases ht
        · rename_i hk
          intro t ht
          rcases List.mem_cons.1 ht with rfl | ht
          · exact ⟨rfl, fun e => absurd e hk⟩
          · exact ih _ _ _ t ht
theorem lexed_knd (l : List UInt8) : Knd (lexed l).1 := by
  unfold lexed
  split
  · intro t ht; cases ht
  · split
    · exact lx_knd _ _ _ _
    · intro t ht; cases ht
/-- Letters that a word or a sign has. -/
def Wd (l : List UInt8) : Prop := l ≠ [] ∧ (kd l = 2 ∨ kd l = 5)
instance (l : List UInt8) : Decidable (Wd l) := by unfold Wd; exact inferInstance
end Go.Proofs.Ytcbeocpllnmcjaa.P
/- What a number's shortest text tells, as plain arithmetic: no program is named here. -/
namespace Go.Proofs.Ytcbeocpllnmcjaa.P
open Go.RowKit
theorem isDg_dch {k : Nat} (h : k < 10) : isDg (dch k) = true := by rw [isDg_iff, dig_toNat h]; omega
/-- Digits behind letters. -/
theorem stB_digits : ∀ (b a : List UInt8), b.all isDg = true → stB (a ++ b) = if 0 ≤ stB a then stB a + b.length else stB a
  | [], a, _ => by simp
  | c :: t, a, h => by
    rw [List.all_cons, Bool.and_eq_true] at h
    have hc := isDg_no46 h.1
    rw [show a ++ c :: t = (a ++ [c]) ++ t by simp, stB_digits t (a ++ [c]) h.2, stB_snoc, if_neg hc]
    by_cases h0 : 0 ≤ stB a
    · rw [if_pos h0, if_pos h0, if_pos (by omega), List.length_cons]; omega
    · rw [if_neg h0, if_neg h0, if_neg h0]
theorem stV_digits : ∀ (b a : List UInt8), b.all isDg = true → stV (a ++ b) = stV a * 10 ^ b.length + stV b
  | [], a, _ => by simp [stV]
  | c :: t, a, h => by
    rw [List.all_cons, Bool.and_eq_true] at h
    have hc := isDg_no46 h.1
    have e := stV_digits t [c] h.2
    rw [show a ++ c :: t = (a ++ [c]) ++ t by simp, stV_digits t (a ++ [c]) h.2, stV_snoc, if_neg hc, show c :: t = [c] ++ t from rfl, e, show stV [c] = 10 * 0 + (c.toNat - 48) by
      have := stV_snoc [] c
      rw [if_neg hc] at this
      exact this]
    rw [List.length_append, List.length_singleton, Nat.add_comm 1, Nat.pow_succ]
    generalize 10 ^ t.length = y
    generalize c.toNat - 48 = d
    generalize stV a = x
    generalize stV t = z
    grind
theorem stV_point (a : List UInt8) : stV (a ++ [46]) = stV a := by rw [stV_snoc, if_pos rfl]
theorem stB_point (a : List UInt8) : stB (a ++ [46]) = 0 := by rw [stB_snoc, if_pos rfl]
theorem dec_digits (q : Nat) : (Lib.decDigits q).all isDg = true := by
  induction q using Nat.strongRecOn with
  | _ q ih =>
    by_cases h : q < 10
    · rw [dec_last h]; simp [isDg_dch h]
    · rw [dec_more h, List.all_append, ih (q / 10) (by omega)]
      simp [isDg_dch (Nat.mod_lt q (by decide : 0 < 10))]
theorem dec_value (q : Nat) : stV (Lib.decDigits q) = q := by
  induction q using Nat.strongRecOn with
  | _ q ih =>
    have s1 : ∀ k, k < 10 → ∀ a, stV (a ++ [dch k]) = 10 * stV a + k := fun k hk a => by
      rw [stV_snoc, if_neg (isDg_no46 (isDg_dch hk)), dig_toNat hk]; omega
    by_cases h : q < 10
    · rw [dec_last h]
      have := s1 q h []
      simpa [stV] using this
    · rw [dec_more h, s1 (q % 10) (Nat.mod_lt q (by decide)), ih (q / 10) (by omega)]
      omega
theorem dec_ne (q : Nat) : Lib.decDigits q ≠ [] := by
  intro h
  have := Lib.decDigits_length q
  rw [h] at this
  have := Lib.nDigits_pos q
  simp at *
  omega
theorem dec_head (q : Nat) : (Lib.decDigits q).getD 0 0 = 48 → q = 0 := by
  induction q using Nat.strongRecOn with
  | _ q ih =>
    intro h
    by_cases hq : q < 10
    · rw [dec_last hq] at h
      have : (dch q).toNat = 48 := by rw [show dch q = 48 from h]; rfl
      rw [dig_toNat hq] at this
      omega
    · rw [dec_more hq] at h
      have hn := dec_ne (q / 10)
      have e : (Lib.decDigits (q / 10) ++ [dch (q % 10)]).getD 0 0 = (Lib.decDigits (q / 10)).getD 0 0 := by
        cases hl : Lib.decDigits (q / 10) with
        | nil => exact absurd hl hn
        | cons a t => rfl
      rw [e] at h
      have := ih (q / 10) (by omega) h
      omega
theorem fs_digits (n : Nat) : ∀ k, (fs n k).all isDg = true
  | 0 => rfl
  | k + 1 => by
    rw [fs]
    split
    · rw [List.all_cons, fs_digits n k, isDg_dch (Nat.mod_lt _ (by decide))]; rfl
    · rfl
theorem fs_value (n : Nat) : ∀ k, stV (fs n k) * 10 ^ (k - (fs n k).length) = n % 10 ^ k
  | 0 => by simp [fs, stV, Nat.mod_one]
  | k + 1 => by
    have ih := fs_value n k
    have hl := fs_length n k
    have hm : n % 10 ^ (k + 1) = n / 10 ^ k % 10 * 10 ^ k + n % 10 ^ k := by
      rw [Nat.pow_succ, Nat.mod_mul]
      rw [Nat.mul_comm (10 ^ k), Nat.add_comm]
    by_cases h : fs n k ≠ [] ∨ n / 10 ^ k % 10 ≠ 0
    · have hc : n / 10 ^ k % 10 < 10 := Nat.mod_lt _ (by decide)
      rw [fs_yes h, show dch (n / 10 ^ k % 10) :: fs n k = [dch (n / 10 ^ k % 10)] ++ fs n k from rfl, stV_digits _ _ (fs_digits n k), List.length_append, List.length_singleton, hm, ← ih,
        show k + 1 - (1 + (fs n k).length) = k - (fs n k).length by omega,
        show stV [dch (n / 10 ^ k % 10)] = n / 10 ^ k % 10 by
          have := stV_snoc [] (dch (n / 10 ^ k % 10))
          rw [if_neg (isDg_no46 (isDg_dch hc)), dig_toNat hc] at this
          simpa [stV] using this, Nat.add_mul, Nat.mul_assoc, ← Nat.pow_add, show (fs n k).length + (k - (fs n k).length) = k by omega]
    · have h1 : fs n k = [] := by
        rcases Decidable.em (fs n k = []) with a | a
        · exact a
        · exact absurd (.inl a) h
      have h2 : n / 10 ^ k % 10 = 0 := by
        rcases Decidable.em (n / 10 ^ k % 10 = 0) with a | a
        · exact a
        · exact absurd (.inr a) h
      rw [h1] at ih
      rw [fs_no h1 h2, hm, h2, ← ih]
      simp [stV]
theorem dg_dp {l : List UInt8} (h : l.all isDg = true) : l.all isDp = true := by
  rw [List.all_eq_true] at h ⊢
  intro x hx
  unfold isDp
  rw [h x hx]
  rfl
theorem dg_count {l : List UInt8} (h : l.all isDg = true) : l.count 46 = 0 := by
  rw [List.count_eq_zero]
  intro k
  rw [List.all_eq_true] at h
  exact isDg_no46 (h _ k) rfl
theorem dg_last {l : List UInt8} (h : l.all isDg = true) : (l.getLast? == some 46) = false := by
  rw [beq_eq_false_iff_ne]
  intro k
  rw [List.all_eq_true] at h
  exact isDg_no46 (h _ (List.mem_of_getLast? k)) rfl
theorem dg_first {l : List UInt8} (h : l.all isDg = true) (hne : l ≠ []) : isDg (l.getD 0 0) = true := by
  cases l with
  | nil => exact absurd rfl hne
  | cons a t => rw [List.all_cons, Bool.and_eq_true] at h; exact h.1
/-- Digits ahead, then the point, then digits: the form of a text. -/
theorem fm_whole {a : List UInt8} (ha : a.all isDg = true) (hne : a ≠ []) (hh : oddHead a = false) : fm a = 1 := by
  rw [fm_is (dg_first ha hne) (by unfold evenBody; rw [dg_dp ha, dg_count ha, dg_last ha]; rfl) hh, dg_count ha]
theorem getD_app {a b : List UInt8} {i : Nat} (h : i < a.length) : (a ++ b).getD i 0 = a.getD i 0 := by
  rw [List.getD_eq_getElem?_getD, List.getElem?_append_left h, ← List.getD_eq_getElem?_getD]
theorem getD_len {a b : List UInt8} : (a ++ b).getD a.length 0 = b.getD 0 0 := by
  rw [List.getD_eq_getElem?_getD, List.getElem?_append_right (Nat.le_refl _), Nat.sub_self, ← List.getD_eq_getElem?_getD]
theorem head_point {a b : List UInt8} (hne : a ≠ []) (hh : oddHead a = false) : oddHead (a ++ 46 :: b) = false := by
  have hl : 0 < a.length := List.length_pos_iff.2 hne
  unfold oddHead at hh ⊢
  rw [getD_app hl]
  by_cases h1 : 1 < a.length
  · rw [getD_app h1]
    rw [decide_eq_true h1] at hh
    rw [decide_eq_true (by simp; omega)]
    exact hh
  · have e : a.length = 1 := by omega
    have := getD_len (a := a) (b := 46 :: b)
    rw [e] at this
    rw [this]
    simp
theorem fm_point {a b : List UInt8} (ha : a.all isDg = true) (hne : a ≠ []) (hh : oddHead a = false) (hb : b.all isDg = true) (hb0 : b ≠ []) : fm (a ++ 46 :: b) = 2 := by
  have hl : 0 < a.length := List.length_pos_iff.2 hne
  have hc : (a ++ 46 :: b).count 46 = 1 := by rw [List.count_append, dg_count ha, List.count_cons_self, dg_count hb]
  have hlast : (a ++ 46 :: b).getLast? = b.getLast? := by
    rw [List.getLast?_append, List.getLast?_cons]
    cases h : b.getLast? with
    | none => exact absurd (List.getLast?_eq_none_iff.1 h) hb0
    | some x => rfl
  rw [fm_is (by rw [getD_app hl]; exact dg_first ha hne) (by
    unfold evenBody
    rw [hc, hlast, dg_last hb, List.all_append, dg_dp ha, List.all_cons, dg_dp hb]
    rfl) (head_point hne hh), hc]
theorem dec_oddHead (q : Nat) : oddHead (Lib.decDigits q) = false := by
  unfold oddHead
  by_cases h : (Lib.decDigits q).getD 0 0 = 48
  · have hq := dec_head q h
    subst hq
    rw [dec_last (by omega)]
    rfl
  · rw [beq_eq_false_iff_ne.2 h]; rfl
theorem tail_no {n p : Nat} (h : fs n p = []) : tail n p = [] := by unfold tail; rw [if_pos h]
theorem tail_yes {n p : Nat} (h : fs n p ≠ []) : tail n p = 46 :: fs n p := by unfold tail; rw [if_neg h]
theorem tx_fm (n p : Nat) : fm (tx n p) = if fs n p = [] then 1 else 2 := by
  unfold tx
  by_cases h : fs n p = []
  · rw [tail_no h, List.append_nil, if_pos h]
    exact fm_whole (dec_digits _) (dec_ne _) (dec_oddHead _)
  · rw [tail_yes h, if_neg h]
    exact fm_point (dec_digits _) (dec_ne _) (dec_oddHead _) (fs_digits n p) h
theorem stB_dec (q : Nat) : stB (Lib.decDigits q) = -1 := by
  have := stB_digits (Lib.decDigits q) [] (dec_digits q)
  simpa [stB] using this
theorem tx_stB (n p : Nat) : stB (tx n p) = if fs n p = [] then -1 else ((fs n p).length : Int) := by
  unfold tx
  by_cases h : fs n p = []
  · rw [tail_no h, List.append_nil, if_pos h, stB_dec]
  · rw [tail_yes h, if_neg h, show Lib.decDigits (n / 10 ^ p) ++ 46 :: fs n p = (Lib.decDigits (n / 10 ^ p) ++ [46]) ++ fs n p by simp, stB_digits _ _ (fs_digits n p), stB_point, if_pos (by omega)]
    omega
theorem tx_stV (n p : Nat) : stV (tx n p) * 10 ^ (p - (fs n p).length) = n := by
  have hv := fs_value n p
  have hl := fs_length n p
  unfold tx
  by_cases h : fs n p = []
  · rw [h] at hv
    rw [tail_no h, List.append_nil, dec_value, h]
    have h0 : n % 10 ^ p = 0 := by rw [← hv]; simp [stV]
    have := Nat.div_add_mod n (10 ^ p)
    rw [h0, Nat.mul_comm] at this
    simpa using this
  · rw [tail_yes h, show Lib.decDigits (n / 10 ^ p) ++ 46 :: fs n p = (Lib.decDigits (n / 10 ^ p) ++ [46]) ++ fs n p by simp, stV_digits _ _ (fs_digits n p), stV_point, dec_value, Nat.add_mul, hv, Nat.mul_assoc, ← Nat.pow_add,
      show (fs n p).length + (p - (fs n p).length) = p by omega, Nat.mul_comm]
    exact Nat.div_add_mod n (10 ^ p)
theorem tx_pK (n p : Nat) : pK (tx n p) p = p - (fs n p).length := by
  have hl := fs_length n p
  unfold pK
  rw [tx_stB]
  by_cases h : fs n p = []
  · rw [if_pos h, h]; simp; omega
  · rw [if_neg h]; omega
theorem tx_pV (n p : Nat) : pV (tx n p) p = (n : Int) := by
  unfold pV
  rw [tx_pK]
  have := tx_stV n p
  exact_mod_cast this
theorem tx_pBad {n p : Nat} (hp : p ≤ 9) : pBad (tx n p) p = false := by
  have hl := fs_length n p
  unfold pBad
  rw [decide_eq_false_iff_not, tx_fm, tx_stB]
  by_cases h : fs n p = []
  · rw [if_pos h, if_pos h]; omega
  · rw [if_neg h, if_neg h]; omega
/-- A number's text is read as it. -/
theorem tx_back {n p : Nat} (hp : p ≤ 9) (most : Int) (hI : I64 (n : Int)) (hm : (n : Int) ≤ most) : pN (tx n p) p most = n ∧ pW (tx n p) p most = 0 := by
  unfold pN pW pGreat
  rw [tx_pBad hp, tx_pV, ok64_t hI, decide_eq_false (by omega)]
  exact ⟨rfl, rfl⟩
/-- The digits behind the point, at least one. -/
def f0 (n p : Nat) : List UInt8 := if fs n p = [] then [48] else fs n p
end Go.Proofs.Ytcbeocpllnmcjaa.P
/- The plan that a text tells isn't great: no more things in it than tokens. Pure: no program is named here. -/
namespace Go.Proofs.Ytcbeocpllnmcjaa.P
open Go.RowKit Mm R6
theorem tiers_cnt (ts : List Tok) : ∀ (n : Nat) (s : St) (acc : List Tier), (tiersS ts n s acc).1.length ≤ n + acc.length
  | 0, s, acc => by show acc.length ≤ _; omega
  | n + 1, s, acc => by
    unfold tiersS
    split
    · have := tiers_cnt ts n (tierS ts s.next).2 (acc ++ [(tierS ts s.next).1])
      simp only [List.length_append, List.length_singleton] at this
      omega
    · show acc.length ≤ _; omega
theorem adjs_cnt (ts : List Tok) : ∀ (n : Nat) (s : St) (acc : List Adj), (adjsS ts n s acc).1.length ≤ n + acc.length
  | 0, s, acc => by show acc.length ≤ _; omega
  | n + 1, s, acc => by
    unfold adjsS
    simp only
    split
    · show acc.length ≤ _; omega
    · have := adjs_cnt ts n (adjS ts (oneS ts s adjWords).2 (1 + (oneS ts s adjWords).1)).2 (acc ++ [(adjS ts (oneS ts s adjWords).2 (1 + (oneS ts s adjWords).1)).1])
      simp only [List.length_append, List.length_singleton] at this
      omega
theorem charge_cnt (ts : List Tok) (s : St) (l c : Int) : (chargeS ts s l c).1.tiers.length ≤ ts.length + 1 ∧ (chargeS ts s l c).1.adjusts.length ≤ ts.length := by
  refine ⟨?_, ?_⟩
  · show (_ ++ [_]).length ≤ _
    rw [List.length_append]
    have := tiers_cnt ts ts.length (wnt ts (kindS ts (optS ts (optS ts (wnt ts (winS ts (tkn ts s 1).2).2 sOpen) wAllowance 0).2 wBlock 1).2).2 sOpen) []
    simp only [List.length_nil] at this
    show _ + 1 ≤ _
    exact Nat.add_le_add_right this 1
  · exact adjs_cnt ts ts.length _ []
/-- What is counted as the items are read. -/
structure Few (ts : List Tok) (i : Nat) (p : Plan) : Prop where
  sum : p.meters.length + p.fees.length + p.charges.length ≤ i
  parts : ∀ c ∈ p.charges, c.tiers.length ≤ ts.length + 1 ∧ c.adjusts.length ≤ ts.length
theorem item_few {ts : List Tok} {s : St} {p : Plan} (h : Few ts s.i p) (ho : goesOn ts s = true) : Few ts (itemS ts s p).2.i (itemS ts s p).1 := by
  rcases item_next ts s p ho with k | ⟨k1, _⟩
  · refine ⟨Nat.le_trans ?_ k, ?_⟩
    · have := h.sum
      unfold itemS
      simp only
      repeat' split
      all_goals simp only [List.length_append, List.length_singleton]; omega
    · unfold itemS
      simp only
      repeat' split
      · exact h.parts
      · exact h.parts
      · intro c hc
        rcases List.mem_append.1 hc with k | k
        · exact h.parts c k
        · obtain rfl := List.mem_singleton.1 k
          exact charge_cnt ts _ _ _
      · exact h.parts
  · rw [k1, wrg_i]
    exact h
theorem items_few {ts : List Tok} : ∀ (n : Nat) (s : St) (p : Plan), Few ts s.i p → Few ts (itemsS ts n s p).2.i (itemsS ts n s p).1
  | 0, _, _, h => h
  | n + 1, s, p, h => by
    unfold itemsS
    split
    · rename_i ho
      exact items_few n _ _ (item_few h ho)
    · exact h
theorem planZ_small : Small planZ := ⟨by decide, by decide, by decide, fun c hc => by cases hc⟩
theorem plan_small {ts : List Tok} (hf : Fine ts) : Small (planS ts).1 := by
  have ok : Ok ts st0 := ⟨hf.toks, hf.toks.pos⟩
  have fw := items_few (ts := ts) ts.length (headS ts st0).2 (headS ts st0).1 ⟨Nat.zero_le _, fun c hc => by cases hc⟩
  have lt := (Ok.itemsS ts.length _ (headS ts st0).1 ok.headS).lt
  have cnt := hf.cnt
  unfold planS
  simp only
  split
  · show Small (itemsS ts ts.length (headS ts st0).2 (headS ts st0).1).1
    exact ⟨by have := fw.sum; omega, by have := fw.sum; omega, by have := fw.sum; omega, fun c hc => by have := fw.parts c hc; omega⟩
  · exact planZ_small
theorem parsed_small (l : List UInt8) : Small (parsed l).1 := by
  unfold parsed
  simp only
  split
  · rename_i h
    exact plan_small (lexed_fine h)
  · exact planZ_small
end Go.Proofs.Ytcbeocpllnmcjaa.P
/- A plan's text and items behind it, as plans: the items are put behind the plan's. Pure: no program is named here. -/
namespace Go.Proofs.Ytcbeocpllnmcjaa.P
open Go.RowKit Mm R6
theorem Sm.goes {n d : Nat} {ts ts' : List Tok} {s s' : St} (A : Al n d ts ts') (h : Sm d s s') (hi : s.i < n) : goesOn ts s = goesOn ts' s' := by
  unfold goesOn
  rw [(Sm.tok A h hi).1, h.err]
/-- The rest of the items, in two rows that read alike to the end of the first. -/
theorem Rl.rest {d : Nat} {ts ts' : List Tok} (A : Al ts.length d ts ts') : ∀ (k : Nat) (s s' : St) (p0 p q : Plan), Ok ts s → Ok ts' s' → Sm d s s' → Rl p0 p q → ts.length ≤ k + s.i →
    Rl p0 (itemsS ts ts.length s p).1 (itemsS ts' ts'.length s' q).1 ∧ Sm d (itemsS ts ts.length s p).2 (itemsS ts' ts'.length s' q).2
  | 0, s, _, _, _, _, ok, _, _, _, hk => by have := ok.lt; omega
  | k + 1, s, s', p0, p, q, ok, ok', h, g, hk => by
    have e := Sm.goes A h ok.lt
    cases hg : goesOn ts s
    · rw [items_stop ts _ s p hg, items_stop ts' _ s' q (by rw [← e, hg])]
      exact ⟨g, h⟩
    · have i1 := Rl.item A ok ok' h g ok.lt (.inl (ok.itemS p).lt)
      rw [items_step ok hg, items_step ok' (by rw [← e, hg])]
      rcases item_next ts s p hg with n1 | ⟨n1, n2⟩
      · exact Rl.rest A k _ _ p0 _ _ (ok.itemS p) (ok'.itemS q) i1.2 i1.1 (by omega)
      · have n3 : goesOn ts (itemS ts s p).2 = false := by rw [n1]; exact n2
        have e2 := Sm.goes A i1.2 (ok.itemS p).lt
        rw [items_stop ts _ _ _ n3, items_stop ts' _ _ _ (by rw [← e2, n3])]
        exact i1
end Go.Proofs.Ytcbeocpllnmcjaa.P

/- A text's tokens, and the plan that they are, fit: the row ends with the end; texts, places and numbers are small. Pure: no program is named here. -/
import Derived.Test.YtcbeocpllnmcjaaJShT
import Derived.Test.YtcbeocpllnmcjaaJDecP
import Derived.Test.YtcbeocpllnmcjaaJMem
namespace Go.Proofs.Ytcbeocpllnmcjaa.P
open Go.RowKit Mm
theorem toks_cons {t : Tok} {ts : List Tok} (h : Toks ts) : Toks (t :: ts) := by
  refine ⟨fun i u hi hl => ?_, by simp⟩
  cases i with
  | zero =>
    have := h.pos
    simp only [List.length_cons] at hl
    omega
  | succ i => exact h.last i u (by simpa using hi) (by simpa using hl)
theorem toks_end (ln cl : Nat) : Toks [⟨0, [], ln, cl⟩] := by
  refine ⟨fun i u hi _ => ?_, by simp⟩
  cases i with
  | zero => cases hi; rfl
  | succ i => cases hi
theorem lx_good (n : Nat) (l : List UInt8) (ln cl : Nat) (hn : l.length ≤ n) (h : (lx n l ln cl).2 = none) :
    Toks (lx n l ln cl).1 ∧ ∀ t ∈ (lx n l ln cl).1, t.t.length ≤ l.length ∧ t.ln ≤ ln + l.length ∧ t.cl ≤ cl + l.length + 1 := by
  induction n generalizing l ln cl with
  | zero =>
    obtain rfl : l = [] := List.eq_nil_of_length_eq_zero (by omega)
    exact ⟨toks_end ln cl, fun t ht => by rw [List.mem_singleton.1 ht]; exact ⟨Nat.le_refl _, by simp, by simp⟩⟩
  | succ n ih =>
    cases l with
    | nil => exact ⟨toks_end ln cl, fun t ht => by rw [List.mem_singleton.1 ht]; exact ⟨Nat.le_refl _, by simp, by simp⟩⟩
    | cons c r =>
      have hp := piece_pos c r
      have hle := piece_le (c :: r)
      have hd : ((c :: r).drop (piece (c :: r))).length = (c :: r).length - piece (c :: r) := List.length_drop ..
      simp only [List.length_cons] at hn hd hle
      unfold lx at h ⊢
      have e := fun ln cl hh => ih ((c :: r).drop (piece (c :: r))) ln cl (by omega) hh
      split at h
      · rename_i hs
        rw [if_pos hs]
        obtain ⟨k1, k2⟩ := e _ _ h
        refine ⟨k1, fun t ht => ?_⟩
        obtain ⟨a, b, d⟩ := k2 t ht
        simp only [List.length_cons]
        refine ⟨by omega, ?_, ?_⟩
        · split at b <;> omega
        · split at d <;> omega
      · rename_i hs
        rw [if_neg hs]
        split at h
        · cases h
        · rename_i hk
          rw [if_neg hk]
          obtain ⟨k1, k2⟩ := e _ _ h
          refine ⟨toks_cons k1, fun t ht => ?_⟩
          simp only [List.length_cons]
          rcases List.mem_cons.1 ht with rfl | ht
          · refine ⟨?_, by simp, by simp only; omega⟩
            simp only [List.length_take, List.length_cons]
            omega
          · obtain ⟨a, b, d⟩ := k2 t ht
            exact ⟨by omega, by omega, by omega⟩
/-- Tokens that are small. -/
structure Fine (ts : List Tok) : Prop where
  toks : Toks ts
  cnt : ts.length ≤ 8193
  tok : ∀ t ∈ ts, t.t.length ≤ 8192 ∧ t.ln ≤ 8193 ∧ t.cl ≤ 8194
theorem lexed_fine {l : List UInt8} (h : (lexed l).2.1 = 0) : Fine (lexed l).1 := by
  unfold lexed at h ⊢
  split at h
  · cases h
  · rename_i hl
    rw [if_neg hl]
    cases hx : (lex l 1 1).2 with
    | none =>
      obtain ⟨k1, k2⟩ := lx_good l.length l 1 1 (Nat.le_refl _) hx
      have := lex_count l 1 1
      refine ⟨k1, by show (lex l 1 1).1.length ≤ _; omega, fun t ht => ?_⟩
      obtain ⟨a, b, c⟩ := k2 t ht
      exact ⟨by omega, by omega, by omega⟩
    | some x => rw [hx] at h; cases h
theorem tk_small {ts : List Tok} (h : Fine ts) (s : St) : (tk ts s).t.length ≤ 8192 ∧ (tk ts s).ln ≤ 8193 ∧ (tk ts s).cl ≤ 8194 := by
  unfold tk
  rw [List.getD_eq_getElem?_getD]
  cases hx : ts[s.i]? with
  | none => exact ⟨by simp [nil0], by simp [nil0], by simp [nil0]⟩
  | some t => exact h.tok t (List.mem_of_getElem? hx)
theorem tkn_small {ts : List Tok} (h : Fine ts) (s : St) (k : Nat) : strOk ⟨(tkn ts s k).1.toArray⟩ := by
  have := (tk_small h s).1
  unfold tkn strOk
  split
  · simp [ByteArray.size]; omega
  · simp [ByteArray.size]
end Go.Proofs.Ytcbeocpllnmcjaa.P
/- The plan that a text tells fits into its cells. Pure: no program is named here. -/
namespace Go.Proofs.Ytcbeocpllnmcjaa.P
open Go.RowKit Mm
theorem foldl_le (l : List UInt8) : ∀ n : Nat, l.foldl (fun n b => 10 * n + (b.toNat - 48)) n ≤ (n + 207) * 10 ^ l.length := by
  induction l with
  | nil => intro n; simp
  | cons b r ih =>
    intro n
    rw [List.foldl_cons, List.length_cons, Nat.pow_succ]
    have hb : b.toNat < 256 := b.toNat_lt
    refine Nat.le_trans (ih _) ?_
    rw [Nat.mul_comm (10 ^ r.length) 10, ← Nat.mul_assoc]
    exact Nat.mul_le_mul_right _ (by omega)
theorem val_le (l : List UInt8) (k : Nat) (h : l.length ≤ k) (hk : k ≤ 10) : I64 (val l : Int) := by
  have h1 := foldl_le l 0
  have h2 : (10 : Nat) ^ l.length ≤ 10 ^ 10 := Nat.pow_le_pow_right (by decide) (by omega)
  have h3 : (0 + 207) * (10 : Nat) ^ l.length ≤ 207 * 10 ^ 10 := Nat.mul_le_mul (by decide) h2
  have h4 : val l ≤ 207 * 10 ^ 10 := Nat.le_trans h1 h3
  unfold I64
  omega
theorem day_ok (l : List UInt8) : dayOk (dayOf' l) := by
  unfold dayOf'
  split
  · rename_i h
    have hl : l.length = 10 := by
      unfold reads formed at h
      simp only [Bool.and_eq_true, decide_eq_true_eq] at h
      omega
    exact ⟨val_le _ 4 (by rw [List.length_take]; omega) (by decide), val_le _ 2 (by rw [List.length_take]; omega) (by decide), val_le _ 2 (by rw [List.length_drop]; omega) (by decide)⟩
  · exact ⟨i64_0, i64_0, i64_0⟩
theorem num_ok (ts : List Tok) (s : St) (places most : Int) : I64 (numS ts s places most).1 := by
  unfold numS
  split
  · show I64 (pN _ _ _)
    unfold pN
    split
    · exact i64_0
    · rename_i h
      simp only [Bool.or_eq_true, not_or, Bool.not_eq_true] at h
      have h2 := h.2
      unfold pGreat at h2
      simp only [Bool.or_eq_false_iff, Bool.not_eq_false'] at h2
      by_cases k : I64 (pV (tk ts s).t places)
      · exact k
      · rw [ok64_f k] at h2
        exact absurd h2.1 (by decide)
  · exact i64_0
theorem win_ok (ts : List Tok) (s : St) : winOk (winS ts s).1 := by
  unfold winS
  split
  · exact ⟨day_ok _, day_ok _⟩
  · exact ⟨⟨i64_0, i64_0, i64_0⟩, ⟨i64_0, i64_0, i64_0⟩⟩
theorem one_at (ts : List Tok) (s : St) : ∀ (ws : List (List UInt8)) (k : Int), -1 ≤ k → -1 ≤ (oneAt ts s ws k).1 ∧ (oneAt ts s ws k).1 ≤ k + ws.length
  | [], k, h => by unfold oneAt; simp; omega
  | w :: r, k, h => by
    unfold oneAt
    split
    · exact ⟨h, by simp; omega⟩
    · obtain ⟨a, b⟩ := one_at ts s r (k + 1) (by omega)
      refine ⟨a, ?_⟩
      rw [List.length_cons]
      omega
theorem one_ok (ts : List Tok) (s : St) (ws : List (List UInt8)) (h : ws.length ≤ 100) : -1 ≤ (oneS ts s ws).1 ∧ (oneS ts s ws).1 ≤ 100 := by
  obtain ⟨a, b⟩ := one_at ts s ws 0 (by omega)
  exact ⟨a, by show (oneAt ts s ws 0).1 ≤ _; omega⟩
theorem mode_ok (ts : List Tok) (s : St) : I64 (modeS ts s).1 := by
  unfold modeS
  split
  · exact i64_0
  · obtain ⟨a, b⟩ := one_ok ts s modes (by decide)
    unfold I64; omega
theorem opt_ok (ts : List Tok) (s : St) (l : List UInt8) {d : Int} (h : I64 d) : I64 (optS ts s l d).1 := by
  unfold optS
  split
  · exact num_ok ..
  · exact h
theorem tiers_ok (ts : List Tok) : ∀ (n : Nat) (s : St) (acc : List Tier), (∀ t ∈ acc, I64 t.upto ∧ I64 t.rate) → ∀ t ∈ (tiersS ts n s acc).1, I64 t.upto ∧ I64 t.rate
  | 0, _, acc, h => h
  | n + 1, s, acc, h => by
    unfold tiersS
    split
    · refine tiers_ok ts n _ _ (fun t ht => ?_)
      rcases List.mem_append.1 ht with k | k
      · exact h t k
      · obtain rfl := List.mem_singleton.1 k
        exact ⟨num_ok .., num_ok ..⟩
    · exact h
theorem adj_ok (ts : List Tok) (s : St) {k : Int} (hk : I64 k) : I64 (adjS ts s k).1.kind ∧ I64 (adjS ts s k).1.num ∧ I64 (adjS ts s k).1.mode := by
  unfold adjS
  split
  · exact ⟨hk, num_ok .., mode_ok ..⟩
  · exact ⟨hk, num_ok .., i64_0⟩
theorem adjs_ok (ts : List Tok) : ∀ (n : Nat) (s : St) (acc : List Adj), (∀ t ∈ acc, I64 t.kind ∧ I64 t.num ∧ I64 t.mode) → ∀ t ∈ (adjsS ts n s acc).1, I64 t.kind ∧ I64 t.num ∧ I64 t.mode
  | 0, _, acc, h => h
  | n + 1, s, acc, h => by
    unfold adjsS
    simp only
    split
    · exact h
    · refine adjs_ok ts n _ _ (fun t ht => ?_)
      rcases List.mem_append.1 ht with k | k
      · exact h t k
      · obtain rfl := List.mem_singleton.1 k
        obtain ⟨a, b⟩ := one_ok ts s adjWords (by decide)
        exact adj_ok ts _ (by unfold I64; omega)
theorem kind_ok (ts : List Tok) (s : St) : I64 (kindS ts s).1 := by
  obtain ⟨a, b⟩ := one_ok ts s kinds (by decide)
  show I64 (1 + (oneS ts s kinds).1)
  unfold I64; omega
def chargeFits (c : Charge) : Prop := strOk c.meter ∧ winOk c.win ∧ (I64 c.allowance ∧ I64 c.block ∧ I64 c.kind ∧ I64 c.mode ∧ I64 c.line ∧ I64 c.col) ∧ (∀ t ∈ c.tiers, I64 t.upto ∧ I64 t.rate) ∧ ∀ a ∈ c.adjusts, I64 a.kind ∧ I64 a.num ∧ I64 a.mode
theorem charge_ok {ts : List Tok} (hf : Fine ts) (s : St) {line col : Int} (h1 : I64 line) (h2 : I64 col) : chargeFits (chargeS ts s line col).1 := by
  refine ⟨tkn_small hf _ _, win_ok .., ⟨opt_ok _ _ _ i64_0, opt_ok _ _ _ (by unfold I64; omega), kind_ok .., mode_ok .., h1, h2⟩, ?_, ?_⟩
  · intro t ht
    rcases List.mem_append.1 ht with k | k
    · exact tiers_ok ts _ _ _ (fun _ h => by cases h) t k
    · obtain rfl := List.mem_singleton.1 k
      exact ⟨i64_0, num_ok ..⟩
  · intro t ht
    exact adjs_ok ts _ _ _ (fun _ h => by cases h) t ht
theorem pos_ok {ts : List Tok} (hf : Fine ts) (s : St) : I64 ((tk ts s).ln : Int) ∧ I64 ((tk ts s).cl : Int) := by
  obtain ⟨_, a, b⟩ := tk_small hf s
  unfold I64; omega
theorem item_fits {ts : List Tok} (hf : Fine ts) (s : St) {p : Plan} (h : Fits p) : Fits (itemS ts s p).1 := by
  obtain ⟨q1, q2⟩ := pos_ok hf s
  unfold itemS
  simp only
  split
  · refine ⟨fun m hm => ?_, h.fees, h.charges, h.name, h.days, h.place⟩
    rcases List.mem_append.1 hm with k | k
    · exact h.meters m k
    · obtain rfl := List.mem_singleton.1 k
      exact ⟨tkn_small hf _ _, tkn_small hf _ _, num_ok .., q1, q2⟩
  · split
    · refine ⟨h.meters, fun m hm => ?_, h.charges, h.name, h.days, h.place⟩
      rcases List.mem_append.1 hm with k | k
      · exact h.fees m k
      · obtain rfl := List.mem_singleton.1 k
        exact ⟨num_ok .., win_ok .., q1, q2⟩
    · split
      · refine ⟨h.meters, h.fees, fun m hm => ?_, h.name, h.days, h.place⟩
        rcases List.mem_append.1 hm with k | k
        · exact h.charges m k
        · obtain rfl := List.mem_singleton.1 k
          exact charge_ok hf _ q1 q2
      · exact h
theorem items_fits {ts : List Tok} (hf : Fine ts) : ∀ (n : Nat) (s : St) (p : Plan), Fits p → Fits (itemsS ts n s p).1
  | 0, _, _, h => h
  | n + 1, s, p, h => by
    unfold itemsS
    split
    · exact items_fits hf n _ _ (item_fits hf s h)
    · exact h
theorem head_fits {ts : List Tok} (hf : Fine ts) (s : St) : Fits (headS ts s).1 :=
  ⟨(fun _ h => by cases h), (fun _ h => by cases h), (fun _ h => by cases h), ⟨tkn_small hf _ _, tkn_small hf _ _⟩, ⟨day_ok _, day_ok _⟩, pos_ok hf s⟩
theorem planZ_fits : Fits planZ :=
  ⟨(fun _ h => by cases h), (fun _ h => by cases h), (fun _ h => by cases h), ⟨by unfold strOk; decide, by unfold strOk; decide⟩, ⟨⟨i64_0, i64_0, i64_0⟩, ⟨i64_0, i64_0, i64_0⟩⟩, i64_0, i64_0⟩
/-- The plan of a text fits. -/
theorem parsed_fits (l : List UInt8) : Fits (parsed l).1 := by
  unfold parsed
  simp only
  split
  · rename_i h
    unfold planS
    simp only
    split
    · exact items_fits (lexed_fine h) _ _ _ (head_fits (lexed_fine h) _)
    · exact planZ_fits
  · exact planZ_fits
end Go.Proofs.Ytcbeocpllnmcjaa.P
/- The items of a text, one by one: each goes on, or is the last. Pure: no program is named here. -/
namespace Go.Proofs.Ytcbeocpllnmcjaa.P
open Go.RowKit Mm
theorem winS_le (ts : List Tok) (s : St) : s.i ≤ (winS ts s).2.i := by
  unfold winS
  split
  · have h1 := tkn_le ts s.next 4
    have h2 := wnt_le ts (dayS ts s.next).2 wTo
    have h3 := tkn_le ts (wnt ts (dayS ts s.next).2 wTo) 4
    have e : s.next.i = s.i + 1 := rfl
    show s.i ≤ (tkn ts (wnt ts (dayS ts s.next).2 wTo) 4).2.i
    have e2 : (dayS ts s.next).2 = (tkn ts s.next 4).2 := rfl
    rw [e2] at h2 h3 ⊢
    omega
  · exact Nat.le_refl _
theorem optS_le (ts : List Tok) (s : St) (l : List UInt8) (d : Int) : s.i ≤ (optS ts s l d).2.i := by
  unfold optS
  split
  · have h1 := numS_le ts s.next 0 1000000
    have h2 := wnt_le ts (numS ts s.next 0 1000000).2 sSemi
    have e : s.next.i = s.i + 1 := rfl
    show s.i ≤ (wnt ts (numS ts s.next 0 1000000).2 sSemi).i
    omega
  · exact Nat.le_refl _
theorem kindS_le (ts : List Tok) (s : St) : s.i ≤ (kindS ts s).2.i := by
  unfold kindS
  simp only
  split
  · exact Nat.le_trans (oneAt_le ts s _ 0) (wrg_le _ _ _)
  · exact oneAt_le ts s _ 0
theorem tiersS_le (ts : List Tok) : ∀ (n : Nat) (s : St) (acc : List Tier), s.i ≤ (tiersS ts n s acc).2.i
  | 0, _, _ => Nat.le_refl _
  | n + 1, s, acc => by
    unfold tiersS
    split
    · have h1 := tierS_le ts s.next
      have h2 := tiersS_le ts n (tierS ts s.next).2 (acc ++ [(tierS ts s.next).1])
      have e : s.next.i = s.i + 1 := rfl
      omega
    · exact Nat.le_refl _
theorem adjsS_le (ts : List Tok) : ∀ (n : Nat) (s : St) (acc : List Adj), s.i ≤ (adjsS ts n s acc).2.i
  | 0, _, _ => Nat.le_refl _
  | n + 1, s, acc => by
    unfold adjsS
    simp only
    have h0 : s.i ≤ (oneS ts s adjWords).2.i := oneAt_le ts s _ 0
    split
    · exact h0
    · have h1 := adjS_le ts (oneS ts s adjWords).2 (1 + (oneS ts s adjWords).1)
      have h2 := adjsS_le ts n (adjS ts (oneS ts s adjWords).2 (1 + (oneS ts s adjWords).1)).2 (acc ++ [(adjS ts (oneS ts s adjWords).2 (1 + (oneS ts s adjWords).1)).1])
      omega
theorem chargeS_le (ts : List Tok) (s : St) (line col : Int) : s.i ≤ (chargeS ts s line col).2.i := by
  refine Nat.le_trans (tkn_le ts s 1) ?_
  refine Nat.le_trans (winS_le ts _) ?_
  refine Nat.le_trans (wnt_le ts _ sOpen) ?_
  refine Nat.le_trans (optS_le ts _ wAllowance 0) ?_
  refine Nat.le_trans (optS_le ts _ wBlock 1) ?_
  refine Nat.le_trans (kindS_le ts _) ?_
  refine Nat.le_trans (wnt_le ts _ sOpen) ?_
  refine Nat.le_trans (tiersS_le ts ts.length _ []) ?_
  refine Nat.le_trans (wnt_le ts _ wRest) ?_
  refine Nat.le_trans (wnt_le ts _ wRate) ?_
  refine Nat.le_trans (numS_le ts _ 6 1000000000000) ?_
  refine Nat.le_trans (wnt_le ts _ sSemi) ?_
  refine Nat.le_trans (wnt_le ts _ sShut) ?_
  refine Nat.le_trans (wnt_le ts _ wRound) ?_
  refine Nat.le_trans (modeS_le ts _) ?_
  refine Nat.le_trans (wnt_le ts _ sSemi) ?_
  refine Nat.le_trans (adjsS_le ts ts.length _ []) ?_
  exact wnt_le ts _ sShut
theorem meterS_le (ts : List Tok) (s : St) (line col : Int) : s.i ≤ (meterS ts s line col).2.i := by
  refine Nat.le_trans (tkn_le ts s 1) ?_
  refine Nat.le_trans (wnt_le ts _ wUnit) ?_
  refine Nat.le_trans (tkn_le ts _ 1) ?_
  refine Nat.le_trans (wnt_le ts _ wMax) ?_
  refine Nat.le_trans (numS_le ts _ 0 2000) ?_
  exact wnt_le ts _ sSemi
theorem feeS_le (ts : List Tok) (s : St) (line col : Int) : s.i ≤ (feeS ts s line col).2.i := by
  refine Nat.le_trans (numS_le ts s 0 1000000000000) ?_
  refine Nat.le_trans (winS_le ts _) ?_
  exact wnt_le ts _ sSemi
/-- An item: the parser goes on, or something is wrong. -/
theorem item_next (ts : List Tok) (s : St) (p : Plan) (h : goesOn ts s = true) : s.i + 1 ≤ (itemS ts s p).2.i ∨ ((itemS ts s p) = (p, wrg ts s 4) ∧ goesOn ts (wrg ts s 4) = false) := by
  by_cases h0 : (oneS ts s itemWords).1 < 0
  · right
    have e : oneS ts s itemWords = (-1, s) := oneAt_no ts s itemWords 0 (Int.le_refl _) h0
    refine ⟨by unfold itemS; simp only; rw [e]; rfl, ?_⟩
    unfold goesOn at h ⊢
    simp only [Bool.and_eq_true, decide_eq_true_eq] at h
    unfold wrg
    rw [if_pos h.1]
    rfl
  · left
    have e : (oneS ts s itemWords).2.i = s.i + 1 := oneAt_yes ts s itemWords 0 (Int.le_refl _) (by show 0 ≤ (oneS ts s itemWords).1; omega)
    unfold itemS
    simp only
    split
    · have := meterS_le ts (oneS ts s itemWords).2 (tk ts s).ln (tk ts s).cl
      simp only
      omega
    · split
      · have := feeS_le ts (oneS ts s itemWords).2 (tk ts s).ln (tk ts s).cl
        simp only
        omega
      · split
        · have := chargeS_le ts (oneS ts s itemWords).2 (tk ts s).ln (tk ts s).cl
          simp only
          omega
        · have := wrg_le ts (oneS ts s itemWords).2 4
          simp only
          omega
theorem items_stop (ts : List Tok) (n : Nat) (s : St) (p : Plan) (h : goesOn ts s = false) : itemsS ts n s p = (p, s) := by
  cases n with
  | zero => rfl
  | succ n => unfold itemsS; rw [h]; rfl
theorem items_fuel (ts : List Tok) : ∀ (n m : Nat) (s : St) (p : Plan), Ok ts s → ts.length ≤ n + s.i → ts.length ≤ m + s.i → itemsS ts n s p = itemsS ts m s p
  | 0, m, s, p, h, hn, _ => by have := h.lt; omega
  | n + 1, 0, s, p, h, _, hm => by have := h.lt; omega
  | n + 1, m + 1, s, p, h, hn, hm => by
    unfold itemsS
    split
    · rename_i ho
      rcases item_next ts s p ho with k | ⟨k1, k2⟩
      · exact items_fuel ts n m _ _ (h.itemS p) (by omega) (by omega)
      · rw [k1]
        simp only
        rw [items_stop ts n _ _ k2, items_stop ts m _ _ k2]
    · rfl
/-- One item more. -/
theorem items_step {ts : List Tok} {s : St} {p : Plan} (h : Ok ts s) (ho : goesOn ts s = true) : itemsS ts ts.length s p = itemsS ts ts.length (itemS ts s p).2 (itemS ts s p).1 := by
  obtain ⟨n, hn⟩ : ∃ n, ts.length = n + 1 := ⟨ts.length - 1, by have := h.lt; omega⟩
  rcases item_next ts s p ho with k | ⟨k1, k2⟩
  · have := items_fuel ts n (n + 1) (itemS ts s p).2 (itemS ts s p).1 (h.itemS p) (by omega) (by omega)
    rw [hn, ← this]
    show itemsS ts (n + 1) s p = _
    rw [itemsS, if_pos ho]
  · rw [hn]
    show itemsS ts (n + 1) s p = _
    rw [itemsS, if_pos ho, k1]
    simp only
    rw [items_stop ts n _ _ k2, items_stop ts (n + 1) _ _ k2]
end Go.Proofs.Ytcbeocpllnmcjaa.P
/- What has been read of a text, and what is still to read: no program is named here. -/
namespace Go.Proofs.Ytcbeocpllnmcjaa.P
open Go.RowKit
theorem drop_cons0 {l : List UInt8} {i : Nat} (h : i < l.length) : l.drop i = l.getD i 0 :: l.drop (i + 1) := by
  rw [List.drop_eq_getElem_cons h, List.getD_eq_getElem?_getD, List.getElem?_eq_getElem h, Option.getD_some]
theorem getD_drop0 (l : List UInt8) (a j : Nat) : (l.drop a).getD j 0 = l.getD (a + j) 0 := by
  rw [List.getD_eq_getElem?_getD, List.getElem?_drop, List.getD_eq_getElem?_getD]
/-- A run from a place on. -/
theorem run_at {p : UInt8 → Bool} {l : List UInt8} {i k : Nat} (h0 : i ≤ k) (h1 : k ≤ l.length) (ha : ∀ j, i ≤ j → j < k → p (l.getD j 0) = true) (hs : k < l.length → p (l.getD k 0) = false) : run p (l.drop i) = k - i := by
  refine run_eq _ _ _ (by rw [List.length_drop]; omega) (fun j hj => ?_) (fun h => ?_)
  · rw [getD_drop0]; exact ha _ (by omega) (by omega)
  · rw [getD_drop0, show i + (k - i) = k by omega]; exact hs (by rw [List.length_drop] at h; omega)
theorem piece_note {l : List UInt8} {i k : Nat} (hi : i < l.length) (h0 : i + 1 ≤ k) (h1 : k ≤ l.length) (hc : l.getD i 0 = 35) (ha : ∀ j, i + 1 ≤ j → j < k → l.getD j 0 ≠ 10) (hs : k < l.length → l.getD k 0 = 10) : piece (l.drop i) = k - i := by
  rw [drop_cons0 hi, piece_cons, hc, if_pos (by decide), run_at h0 h1 (fun j a b => by simpa using ha j a b) (fun h => by rw [hs h]; decide)]
  omega
theorem piece_gap {l : List UInt8} {i : Nat} (hi : i < l.length) (hc : isGap (l.getD i 0) = true) : piece (l.drop i) = 1 := by
  have : ¬ (l.getD i 0 == 35) = true := by
    intro h
    rw [beq_iff_eq] at h
    rw [h] at hc
    revert hc; decide
  rw [drop_cons0 hi, piece_cons, if_neg this, if_pos hc]
theorem piece_row {l : List UInt8} {i k : Nat} (hi : i < l.length) (h0 : i + 1 ≤ k) (h1 : k ≤ l.length) (hn : skips (l.getD i 0) = false) (ha : ∀ j, i + 1 ≤ j → j < k → isLt (l.getD j 0) = true)
    (hs : isLt (l.getD i 0) = true → k < l.length → isLt (l.getD k 0) = false) (ho : isLt (l.getD i 0) = false → k = i + 1) : piece (l.drop i) = k - i := by
  unfold skips at hn
  rw [Bool.or_eq_false_iff] at hn
  rw [drop_cons0 hi, piece_cons, if_neg (by rw [hn.1]; decide), if_neg (by rw [hn.2]; decide)]
  by_cases hl : isLt (l.getD i 0) = true
  · rw [if_pos hl, run_at h0 h1 ha (hs hl)]
    omega
  · rw [if_neg hl, ho (by simpa using hl)]
    omega
/-- What has been read, and what is still to read. -/
def Sofar (l : List UInt8) (i ln cl : Nat) (acc : List Tok) : Prop := lex l 1 1 = (acc ++ (lex (l.drop i) ln cl).1, (lex (l.drop i) ln cl).2)
theorem read_start (l : List UInt8) : Sofar l 0 1 1 [] := by unfold Sofar; simp
theorem Sofar.count {l : List UInt8} {i ln cl : Nat} {acc : List Tok} (h : Sofar l i ln cl acc) : acc.length ≤ l.length + 1 := by
  have := lex_count l 1 1
  rw [h] at this
  simp only [List.length_append] at this
  omega
theorem Sofar.stop {l : List UInt8} {i ln cl : Nat} {acc : List Tok} (h : Sofar l i ln cl acc) (hi : l.length ≤ i) : lex l 1 1 = (acc ++ [⟨0, [], ln, cl⟩], none) := by
  unfold Sofar at h
  rw [List.drop_of_length_le hi, lex_nil] at h
  exact h
theorem Sofar.line {l : List UInt8} {i ln cl : Nat} {acc : List Tok} (h : Sofar l i ln cl acc) (hi : i < l.length) (hc : l.getD i 0 = 10) : Sofar l (i + 1) (ln + 1) 1 acc := by
  have hp : piece (l.drop i) = 1 := piece_gap hi (by rw [hc]; decide)
  unfold Sofar at h ⊢
  rw [drop_cons0 hi] at h hp
  rw [lex_skip (by rw [hc]; decide), hp, hc] at h
  exact h
theorem Sofar.skip {l : List UInt8} {i k ln cl : Nat} {acc : List Tok} (h : Sofar l i ln cl acc) (hi : i < l.length) (hs : skips (l.getD i 0) = true) (hc : l.getD i 0 ≠ 10) (hik : i < k) (hp : piece (l.drop i) = k - i) : Sofar l k ln (cl + (k - i)) acc := by
  have e : l.drop k = (l.drop i).drop (k - i) := by rw [List.drop_drop, show i + (k - i) = k by omega]
  have hb : ¬ (l.getD i 0 == 10) = true := by simpa using hc
  unfold Sofar at h ⊢
  rw [e]
  rw [drop_cons0 hi] at h hp ⊢
  rw [lex_skip hs, hp, if_neg hb, if_neg hb] at h
  exact h
theorem Sofar.bad {l : List UInt8} {i k ln cl : Nat} {acc : List Tok} (h : Sofar l i ln cl acc) (hi : i < l.length) (hs : skips (l.getD i 0) = false) (hp : piece (l.drop i) = k - i) (hk : kd ((l.drop i).take (k - i)) = 0) : lex l 1 1 = (acc, some (ln, cl)) := by
  unfold Sofar at h
  rw [drop_cons0 hi] at h hp hk
  rw [lex_bad hs (by rw [hp]; exact hk), List.append_nil] at h
  exact h
theorem Sofar.tok {l : List UInt8} {i k ln cl : Nat} {acc : List Tok} (h : Sofar l i ln cl acc) (hi : i < l.length) (hs : skips (l.getD i 0) = false) (hik : i < k) (hp : piece (l.drop i) = k - i) (hk : kd ((l.drop i).take (k - i)) ≠ 0) :
    Sofar l k ln (cl + (k - i)) (acc ++ [⟨kd ((l.drop i).take (k - i)), (l.drop i).take (k - i), ln, cl⟩]) := by
  have e : l.drop k = (l.drop i).drop (k - i) := by rw [List.drop_drop, show i + (k - i) = k by omega]
  unfold Sofar at h ⊢
  rw [e]
  rw [drop_cons0 hi] at h hp hk ⊢
  rw [lex_tok hs (by rw [hp]; exact hk), hp] at h
  rw [List.append_assoc]
  exact h
/-- The answer, told by what lex finds. -/
theorem lexed_great {l : List UInt8} (h : 8192 < l.length) : lexed l = ([], 6, 1, 1) := by unfold lexed; rw [if_pos h]
theorem lexed_bad {l : List UInt8} {acc : List Tok} {a b : Nat} (h : l.length ≤ 8192) (hl : lex l 1 1 = (acc, some (a, b))) : lexed l = ([], 3, a, b) := by unfold lexed; rw [if_neg (by omega), hl]
theorem lexed_ok {l : List UInt8} {acc : List Tok} (h : l.length ≤ 8192) (hl : lex l 1 1 = (acc, none)) : lexed l = (acc, 0, 0, 0) := by unfold lexed; rw [if_neg (by omega), hl]
end Go.Proofs.Ytcbeocpllnmcjaa.P
/- Two texts, one behind the other, as tokens; tokens with notes between them: no program is named here. -/
namespace Go.Proofs.Ytcbeocpllnmcjaa.P
open Go.RowKit
theorem run_over {p : UInt8 → Bool} (r m : List UInt8) {c : UInt8} (h : p c = false) : run p (r ++ c :: m) = run p r := by
  induction r with
  | nil => simp [run, h]
  | cons x r ih => simp only [List.cons_append, run, ih]
end Go.Proofs.Ytcbeocpllnmcjaa.P
/- Tokens that read alike, as plans: what the parser makes of them is alike, but for places. Pure: no program is named here. -/
namespace Go.Proofs.Ytcbeocpllnmcjaa.P
open Go.RowKit Mm R6
/-- Two rows of tokens read alike from some place on, up to some place. -/
def Al (n d : Nat) (ts ts' : List Tok) : Prop := ∀ j, j < n → (ts.getD j nil0).k = (ts'.getD (j + d) nil0).k ∧ (ts.getD j nil0).t = (ts'.getD (j + d) nil0).t
/-- Two parsers stand at such places. -/
structure Sm (d : Nat) (s s' : St) : Prop where
  err : s.err = s'.err
  ix : s'.i = s.i + d
section
variable {n d : Nat} {ts ts' : List Tok} {s s' : St}
theorem Sm.tok (A : Al n d ts ts') (h : Sm d s s') (hi : s.i < n) : (tk ts s).k = (tk ts' s').k ∧ (tk ts s).t = (tk ts' s').t := by
  have := A s.i hi
  unfold tk
  rw [h.ix]
  exact this
theorem Sm.next (h : Sm d s s') : Sm d s.next s'.next := ⟨h.err, by show s'.i + 1 = s.i + 1 + d; rw [h.ix]; omega⟩
theorem wrgErr (ts : List Tok) (s : St) (e : Int) : (P.wrg ts s e).err = if s.err = 0 then e else s.err := by unfold P.wrg; split <;> rfl
theorem Sm.wrg (h : Sm d s s') (e : Int) : Sm d (wrg ts s e) (wrg ts' s' e) := ⟨by rw [wrgErr, wrgErr, h.err], by rw [wrg_i, wrg_i, h.ix]⟩
theorem Sm.onW (A : Al n d ts ts') (h : Sm d s s') (hi : s.i < n) (l : List UInt8) : onW ts s l = onW ts' s' l := by
  unfold P.onW
  rw [(Sm.tok A h hi).1, (Sm.tok A h hi).2, h.err]
theorem Sm.isTk (A : Al n d ts ts') (h : Sm d s s') (hi : s.i < n) (k : Nat) : isTk ts s k = isTk ts' s' k := by
  unfold P.isTk
  rw [(Sm.tok A h hi).1, h.err]
theorem Sm.wnt (A : Al n d ts ts') (h : Sm d s s') (hi : s.i < n) (l : List UInt8) : Sm d (wnt ts s l) (wnt ts' s' l) := by
  unfold P.wnt
  rw [← Sm.onW A h hi l]
  split
  · exact h.next
  · exact h.wrg 4
theorem Sm.tkn (A : Al n d ts ts') (h : Sm d s s') (hi : s.i < n) (k : Nat) : (tkn ts s k).1 = (tkn ts' s' k).1 ∧ Sm d (tkn ts s k).2 (tkn ts' s' k).2 := by
  unfold P.tkn
  rw [← Sm.isTk A h hi k]
  split
  · exact ⟨(Sm.tok A h hi).2, h.next⟩
  · exact ⟨rfl, h.wrg 4⟩
theorem Sm.bad (h : Sm d s s') (v : Int) : Sm d (bad ts s v) (bad ts' s' v) := by
  unfold P.bad
  split
  · exact h.wrg 4
  · split
    · exact h.wrg 6
    · exact h
theorem Sm.numS (A : Al n d ts ts') (h : Sm d s s') (hi : s.i < n) (p m : Int) : (numS ts s p m).1 = (numS ts' s' p m).1 ∧ Sm d (numS ts s p m).2 (numS ts' s' p m).2 := by
  unfold P.numS
  rw [← Sm.isTk A h hi 3, ← (Sm.tok A h hi).2]
  split
  · exact ⟨rfl, (h.bad _).next⟩
  · exact ⟨rfl, h.wrg 4⟩
theorem Sm.dayS (A : Al n d ts ts') (h : Sm d s s') (hi : s.i < n) : (dayS ts s).1 = (dayS ts' s').1 ∧ Sm d (dayS ts s).2 (dayS ts' s').2 := by
  have a := Sm.tkn A h hi 4
  unfold P.dayS
  rw [a.1]
  exact ⟨rfl, a.2⟩
theorem Sm.winS (A : Al n d ts ts') (h : Sm d s s') (hi : (P.winS ts s).2.i < n) : (winS ts s).1 = (winS ts' s').1 ∧ Sm d (winS ts s).2 (winS ts' s').2 := by
  have h0 : s.i < n := Nat.lt_of_le_of_lt (winS_le ts s) hi
  unfold P.winS at hi ⊢
  rw [← Sm.onW A h h0 wFrom]
  by_cases c : P.onW ts s wFrom = true
  · simp only [if_pos c] at hi ⊢
    have l1 : s.next.i ≤ (P.dayS ts s.next).2.i := tkn_le ts s.next 4
    have l2 := wnt_le ts (P.dayS ts s.next).2 wTo
    have l3 : (P.wnt ts (P.dayS ts s.next).2 wTo).i ≤ (P.dayS ts (P.wnt ts (P.dayS ts s.next).2 wTo)).2.i := tkn_le ts _ 4
    have a1 := Sm.dayS A h.next (by omega)
    have a2 := Sm.wnt A a1.2 (by omega) wTo
    have a3 := Sm.dayS A a2 (by omega)
    rw [a1.1, a3.1]
    exact ⟨rfl, a3.2⟩
  · simp only [if_neg c] at hi ⊢
    exact ⟨trivial, h⟩
theorem Sm.oneAt (A : Al n d ts ts') (h : Sm d s s') (hi : s.i < n) : ∀ (ws : List (List UInt8)) (k : Int), (oneAt ts s ws k).1 = (oneAt ts' s' ws k).1 ∧ Sm d (oneAt ts s ws k).2 (oneAt ts' s' ws k).2
  | [], _ => ⟨rfl, h⟩
  | w :: r, k => by
    unfold P.oneAt
    rw [← Sm.onW A h hi w]
    split
    · exact ⟨rfl, h.next⟩
    · exact Sm.oneAt A h hi r (k + 1)
theorem Sm.oneS (A : Al n d ts ts') (h : Sm d s s') (hi : s.i < n) (ws : List (List UInt8)) : (oneS ts s ws).1 = (oneS ts' s' ws).1 ∧ Sm d (oneS ts s ws).2 (oneS ts' s' ws).2 := Sm.oneAt A h hi ws 0
theorem Sm.modeS (A : Al n d ts ts') (h : Sm d s s') (hi : (P.modeS ts s).2.i < n) : (modeS ts s).1 = (modeS ts' s').1 ∧ Sm d (modeS ts s).2 (modeS ts' s').2 := by
  have h0 : s.i < n := Nat.lt_of_le_of_lt (modeS_le ts s) hi
  have a := Sm.oneS A h h0 modes
  unfold P.modeS
  rw [← a.1]
  split
  · exact ⟨rfl, a.2.wrg 4⟩
  · exact a
theorem Sm.kindS (A : Al n d ts ts') (h : Sm d s s') (hi : (P.kindS ts s).2.i < n) : (kindS ts s).1 = (kindS ts' s').1 ∧ Sm d (kindS ts s).2 (kindS ts' s').2 := by
  have h0 : s.i < n := Nat.lt_of_le_of_lt (kindS_le ts s) hi
  have a := Sm.oneS A h h0 kinds
  unfold P.kindS
  simp only
  rw [← a.1]
  refine ⟨rfl, ?_⟩
  split
  · exact a.2.wrg 4
  · exact a.2
theorem Sm.optS (A : Al n d ts ts') (h : Sm d s s') {l : List UInt8} {v : Int} (hi : (P.optS ts s l v).2.i < n) : (optS ts s l v).1 = (optS ts' s' l v).1 ∧ Sm d (optS ts s l v).2 (optS ts' s' l v).2 := by
  have h0 : s.i < n := Nat.lt_of_le_of_lt (optS_le ts s l v) hi
  unfold P.optS at hi ⊢
  rw [← Sm.onW A h h0 l]
  by_cases c : P.onW ts s l = true
  · simp only [if_pos c] at hi ⊢
    have l1 := numS_le ts s.next 0 1000000
    have l2 := wnt_le ts (P.numS ts s.next 0 1000000).2 sSemi
    have a1 := Sm.numS A h.next (by omega) 0 1000000
    exact ⟨a1.1, Sm.wnt A a1.2 (by omega) sSemi⟩
  · simp only [if_neg c] at hi ⊢
    exact ⟨trivial, h⟩
theorem Sm.tierS (A : Al n d ts ts') (h : Sm d s s') (hi : (P.tierS ts s).2.i < n) : (tierS ts s).1 = (tierS ts' s').1 ∧ Sm d (tierS ts s).2 (tierS ts' s').2 := by
  have l1 := numS_le ts s 0 1000000
  have l2 := wnt_le ts (P.numS ts s 0 1000000).2 wRate
  have l3 := numS_le ts (P.wnt ts (P.numS ts s 0 1000000).2 wRate) 6 1000000000000
  have l4 := wnt_le ts (P.numS ts (P.wnt ts (P.numS ts s 0 1000000).2 wRate) 6 1000000000000).2 sSemi
  unfold P.tierS at hi ⊢
  simp only at hi ⊢
  have a1 := Sm.numS A h (by omega) 0 1000000
  have a2 := Sm.wnt A a1.2 (by omega) wRate
  have a3 := Sm.numS A a2 (by omega) 6 1000000000000
  rw [a1.1, a3.1]
  exact ⟨rfl, Sm.wnt A a3.2 (by omega) sSemi⟩
end
theorem Sm.tiers {n d : Nat} {ts ts' : List Tok} (A : Al n d ts ts') : ∀ (m : Nat) (s s' : St) (acc : List Tier), Sm d s s' → (tiersS ts m s acc).2.i < n → (tiersS ts m s acc).1 = (tiersS ts' m s' acc).1 ∧ Sm d (tiersS ts m s acc).2 (tiersS ts' m s' acc).2
  | 0, _, _, _, h, _ => ⟨rfl, h⟩
  | m + 1, s, s', acc, h, hi => by
    have h0 : s.i < n := Nat.lt_of_le_of_lt (tiersS_le ts (m + 1) s acc) hi
    unfold tiersS at hi ⊢
    rw [← Sm.onW A h h0 wUpto]
    by_cases c : P.onW ts s wUpto = true
    · simp only [if_pos c] at hi ⊢
      have a := Sm.tierS A h.next (Nat.lt_of_le_of_lt (tiersS_le ts m _ _) hi)
      rw [← a.1]
      exact Sm.tiers A m _ _ _ a.2 hi
    · simp only [if_neg c] at hi ⊢
      exact ⟨trivial, h⟩
theorem Sm.adjS {n d : Nat} {ts ts' : List Tok} {s s' : St} (A : Al n d ts ts') (h : Sm d s s') (k : Int) (hi : (P.adjS ts s k).2.i < n) : (adjS ts s k).1 = (adjS ts' s' k).1 ∧ Sm d (adjS ts s k).2 (adjS ts' s' k).2 := by
  unfold P.adjS at hi ⊢
  by_cases c : k = 1
  · simp only [if_pos c] at hi ⊢
    have l1 := numS_le ts s 3 100000000
    have l2 := modeS_le ts (P.numS ts s 3 100000000).2
    have l3 := wnt_le ts (P.modeS ts (P.numS ts s 3 100000000).2).2 sSemi
    have a1 := Sm.numS A h (by omega) 3 100000000
    have a2 := Sm.modeS A a1.2 (by omega)
    rw [a1.1, a2.1]
    exact ⟨rfl, Sm.wnt A a2.2 (by omega) sSemi⟩
  · simp only [if_neg c] at hi ⊢
    have l1 := numS_le ts s 0 1000000000000
    have l3 := wnt_le ts (P.numS ts s 0 1000000000000).2 sSemi
    have a1 := Sm.numS A h (by omega) 0 1000000000000
    rw [a1.1]
    exact ⟨rfl, Sm.wnt A a1.2 (by omega) sSemi⟩
theorem Sm.adjs {n d : Nat} {ts ts' : List Tok} (A : Al n d ts ts') : ∀ (m : Nat) (s s' : St) (acc : List Adj), Sm d s s' → (adjsS ts m s acc).2.i < n → (adjsS ts m s acc).1 = (adjsS ts' m s' acc).1 ∧ Sm d (adjsS ts m s acc).2 (adjsS ts' m s' acc).2
  | 0, _, _, _, h, _ => ⟨rfl, h⟩
  | m + 1, s, s', acc, h, hi => by
    have h0 : s.i < n := Nat.lt_of_le_of_lt (adjsS_le ts (m + 1) s acc) hi
    have a := Sm.oneS A h h0 adjWords
    unfold adjsS at hi ⊢
    simp only at hi ⊢
    rw [← a.1]
    by_cases c : 1 + (P.oneS ts s adjWords).1 = 0
    · simp only [if_pos c] at hi ⊢
      exact ⟨trivial, a.2⟩
    · simp only [if_neg c] at hi ⊢
      have b := Sm.adjS A a.2 (1 + (P.oneS ts s adjWords).1) (Nat.lt_of_le_of_lt (adjsS_le ts m _ _) hi)
      rw [← b.1]
      exact Sm.adjs A m _ _ _ b.2 hi
section
variable {n d : Nat} {ts ts' : List Tok} {s s' : St}
theorem Sm.tiersF (A : Al n d ts ts') (ok : Ok ts s) (ok' : Ok ts' s') (h : Sm d s s') (hi : (tiersS ts ts.length s []).2.i < n) :
    (tiersS ts ts.length s []).1 = (tiersS ts' ts'.length s' []).1 ∧ Sm d (tiersS ts ts.length s []).2 (tiersS ts' ts'.length s' []).2 := by
  rw [tiers_fuel ts ts.length (ts.length + ts'.length) s [] ok (by omega) (by omega)] at hi ⊢
  rw [tiers_fuel ts' ts'.length (ts.length + ts'.length) s' [] ok' (by omega) (by omega)]
  exact Sm.tiers A _ _ _ _ h hi
theorem Sm.adjsF (A : Al n d ts ts') (ok : Ok ts s) (ok' : Ok ts' s') (h : Sm d s s') (hi : (adjsS ts ts.length s []).2.i < n) :
    (adjsS ts ts.length s []).1 = (adjsS ts' ts'.length s' []).1 ∧ Sm d (adjsS ts ts.length s []).2 (adjsS ts' ts'.length s' []).2 := by
  rw [adjs_fuel ts ts.length (ts.length + ts'.length) s [] ok (by omega) (by omega)] at hi ⊢
  rw [adjs_fuel ts' ts'.length (ts.length + ts'.length) s' [] ok' (by omega) (by omega)]
  exact Sm.adjs A _ _ _ _ h hi
theorem nM_of {a a' u u' : List UInt8} {x x' : Int} (e1 : a = a') (e2 : u = u') (e3 : x = x') {l c l' c' : Int} : nM ⟨⟨a.toArray⟩, ⟨u.toArray⟩, x, l, c⟩ = nM ⟨⟨a'.toArray⟩, ⟨u'.toArray⟩, x', l', c'⟩ := by subst e1 e2 e3; rfl
theorem nF_of {x x' : Int} {w w' : Win} (e1 : x = x') (e2 : w = w') {l c l' c' : Int} : nF ⟨x, w, l, c⟩ = nF ⟨x', w', l', c'⟩ := by subst e1 e2; rfl
theorem nC_of {m m' : List UInt8} {w w' : Win} {a a' b b' k k' r r' x x' : Int} {t t' : List Tier} {j j' : List Adj} (e1 : m = m') (e2 : w = w') (e3 : a = a') (e4 : b = b') (e5 : k = k') (e6 : t = t') (e7 : r = r') (e8 : x = x') (e9 : j = j') {l c l' c' : Int} :
    nC ⟨⟨m.toArray⟩, w, a, b, k, t ++ [⟨0, r⟩], x, j, l, c⟩ = nC ⟨⟨m'.toArray⟩, w', a', b', k', t' ++ [⟨0, r'⟩], x', j', l', c'⟩ := by subst e1 e2 e3 e4 e5 e6 e7 e8 e9; rfl
theorem Sm.meterS (A : Al n d ts ts') (ok : Ok ts s) (ok' : Ok ts' s') (h : Sm d s s') (hi : (P.numS ts (P.wnt ts (P.tkn ts (P.wnt ts (P.tkn ts s 1).2 wUnit) 1).2 wMax) 0 2000).2.i < n) (l c l' c' : Int) : nM (P.meterS ts s l c).1 = nM (P.meterS ts' s' l' c').1 ∧ Sm d (P.meterS ts s l c).2 (P.meterS ts' s' l' c').2 := by
  have b5 : (P.numS ts (P.wnt ts (P.tkn ts (P.wnt ts (P.tkn ts s 1).2 wUnit) 1).2 wMax) 0 2000).2.i < n := hi
  have b4 : (P.wnt ts (P.tkn ts (P.wnt ts (P.tkn ts s 1).2 wUnit) 1).2 wMax).i < n := Nat.lt_of_le_of_lt (numS_le ts (P.wnt ts (P.tkn ts (P.wnt ts (P.tkn ts s 1).2 wUnit) 1).2 wMax) 0 2000) b5
  have b3 : (P.tkn ts (P.wnt ts (P.tkn ts s 1).2 wUnit) 1).2.i < n := Nat.lt_of_le_of_lt (wnt_le ts (P.tkn ts (P.wnt ts (P.tkn ts s 1).2 wUnit) 1).2 wMax) b4
  have b2 : (P.wnt ts (P.tkn ts s 1).2 wUnit).i < n := Nat.lt_of_le_of_lt (tkn_le ts (P.wnt ts (P.tkn ts s 1).2 wUnit) 1) b3
  have b1 : (P.tkn ts s 1).2.i < n := Nat.lt_of_le_of_lt (wnt_le ts (P.tkn ts s 1).2 wUnit) b2
  have b0 : s.i < n := Nat.lt_of_le_of_lt (tkn_le ts s 1) b1
  have o0 := ok
  have q0 := ok'
  have o1 := o0.tkn (k := 1) (by decide)
  have q1 := q0.tkn (k := 1) (by decide)
  have a1 := Sm.tkn A (h) b0 1
  have o2 := o1.wnt wUnit
  have q2 := q1.wnt wUnit
  have a2 := Sm.wnt A (a1.2) b1 wUnit
  have o3 := o2.tkn (k := 1) (by decide)
  have q3 := q2.tkn (k := 1) (by decide)
  have a3 := Sm.tkn A (a2) b2 1
  have o4 := o3.wnt wMax
  have q4 := q3.wnt wMax
  have a4 := Sm.wnt A (a3.2) b3 wMax
  have o5 := o4.numS 0 2000
  have q5 := q4.numS 0 2000
  have a5 := Sm.numS A (a4) b4 0 2000
  exact ⟨nM_of a1.1 a3.1 a5.1, Sm.wnt A (a5.2) b5 sSemi⟩
theorem Sm.feeS (A : Al n d ts ts') (ok : Ok ts s) (ok' : Ok ts' s') (h : Sm d s s') (hi : (P.winS ts (P.numS ts s 0 1000000000000).2).2.i < n) (l c l' c' : Int) : nF (P.feeS ts s l c).1 = nF (P.feeS ts' s' l' c').1 ∧ Sm d (P.feeS ts s l c).2 (P.feeS ts' s' l' c').2 := by
  have b2 : (P.winS ts (P.numS ts s 0 1000000000000).2).2.i < n := hi
  have b1 : (P.numS ts s 0 1000000000000).2.i < n := Nat.lt_of_le_of_lt (winS_le ts (P.numS ts s 0 1000000000000).2) b2
  have b0 : s.i < n := Nat.lt_of_le_of_lt (numS_le ts s 0 1000000000000) b1
  have o0 := ok
  have q0 := ok'
  have o1 := o0.numS 0 1000000000000
  have q1 := q0.numS 0 1000000000000
  have a1 := Sm.numS A (h) b0 0 1000000000000
  have o2 := o1.winS
  have q2 := q1.winS
  have a2 := Sm.winS A (a1.2) b2
  exact ⟨nF_of a1.1 a2.1, Sm.wnt A (a2.2) b2 sSemi⟩
theorem Sm.chargeS (A : Al n d ts ts') (ok : Ok ts s) (ok' : Ok ts' s') (h : Sm d s s') (hi : (P.adjsS ts ts.length (P.wnt ts (P.modeS ts (P.wnt ts (P.wnt ts (P.wnt ts (P.numS ts (P.wnt ts (P.wnt ts (P.tiersS ts ts.length (P.wnt ts (P.kindS ts (P.optS ts (P.optS ts (P.wnt ts (P.winS ts (P.tkn ts s 1).2).2 sOpen) wAllowance 0).2 wBlock 1).2).2 sOpen) []).2 wRest) wRate) 6 1000000000000).2 sSemi) sShut) wRound)).2 sSemi) []).2.i < n) (l c l' c' : Int) : nC (P.chargeS ts s l c).1 = nC (P.chargeS ts' s' l' c').1 ∧ Sm d (P.chargeS ts s l c).2 (P.chargeS ts' s' l' c').2 := by
  have b17 : (P.adjsS ts ts.length (P.wnt ts (P.modeS ts (P.wnt ts (P.wnt ts (P.wnt ts (P.numS ts (P.wnt ts (P.wnt ts (P.tiersS ts ts.length (P.wnt ts (P.kindS ts (P.optS ts (P.optS ts (P.wnt ts (P.winS ts (P.tkn ts s 1).2).2 sOpen) wAllowance 0).2 wBlock 1).2).2 sOpen) []).2 wRest) wRate) 6 1000000000000).2 sSemi) sShut) wRound)).2 sSemi) []).2.i < n := hi
  have b16 : (P.wnt ts (P.modeS ts (P.wnt ts (P.wnt ts (P.wnt ts (P.numS ts (P.wnt ts (P.wnt ts (P.tiersS ts ts.length (P.wnt ts (P.kindS ts (P.optS ts (P.optS ts (P.wnt ts (P.winS ts (P.tkn ts s 1).2).2 sOpen) wAllowance 0).2 wBlock 1).2).2 sOpen) []).2 wRest) wRate) 6 1000000000000).2 sSemi) sShut) wRound)).2 sSemi).i < n := Nat.lt_of_le_of_lt (adjsS_le ts ts.length (P.wnt ts (P.modeS ts (P.wnt ts (P.wnt ts (P.wnt ts (P.numS ts (P.wnt ts (P.wnt ts (P.tiersS ts ts.length (P.wnt ts (P.kindS ts (P.optS ts (P.optS ts (P.wnt ts (P.winS ts (P.tkn ts s 1).2).2 sOpen) wAllowance 0).2 wBlock 1).2).2 sOpen) []).2 wRest) wRate) 6 1000000000000).2 sSemi) sShut) wRound)).2 sSemi) []) b17
  have b15 : (P.modeS ts (P.wnt ts (P.wnt ts (P.wnt ts (P.numS ts (P.wnt ts (P.wnt ts (P.tiersS ts ts.length (P.wnt ts (P.kindS ts (P.optS ts (P.optS ts (P.wnt ts (P.winS ts (P.tkn ts s 1).2).2 sOpen) wAllowance 0).2 wBlock 1).2).2 sOpen) []).2 wRest) wRate) 6 1000000000000).2 sSemi) sShut) wRound)).2.i < n := Nat.lt_of_le_of_lt (wnt_le ts (P.modeS ts (P.wnt ts (P.wnt ts (P.wnt ts (P.numS ts (P.wnt ts (P.wnt ts (P.tiersS ts ts.length (P.wnt ts (P.kindS ts (P.optS ts (P.optS ts (P.wnt ts (P.winS ts (P.tkn ts s 1).2).2 sOpen) wAllowance 0).2 wBlock 1).2).2 sOpen) []).2 wRest) wRate) 6 1000000000000).2 sSemi) sShut) wRound)).2 sSemi) b16
  have b14 : (P.wnt ts (P.wnt ts (P.wnt ts (P.numS ts (P.wnt ts (P.wnt ts (P.tiersS ts ts.length (P.wnt ts (P.kindS ts (P.optS ts (P.optS ts (P.wnt ts (P.winS ts (P.tkn ts s 1).2).2 sOpen) wAllowance 0).2 wBlock 1).2).2 sOpen) []).2 wRest) wRate) 6 1000000000000).2 sSemi) sShut) wRound).i < n := Nat.lt_of_le_of_lt (modeS_le ts (P.wnt ts (P.wnt ts (P.wnt ts (P.numS ts (P.wnt ts (P.wnt ts (P.tiersS ts ts.length (P.wnt ts (P.kindS ts (P.optS ts (P.optS ts (P.wnt ts (P.winS ts (P.tkn ts s 1).2).2 sOpen) wAllowance 0).2 wBlock 1).2).2 sOpen) []).2 wRest) wRate) 6 1000000000000).2 sSemi) sShut) wRound)) b15
  have b13 : (P.wnt ts (P.wnt ts (P.numS ts (P.wnt ts (P.wnt ts (P.tiersS ts ts.length (P.wnt ts (P.kindS ts (P.optS ts (P.optS ts (P.wnt ts (P.winS ts (P.tkn ts s 1).2).2 sOpen) wAllowance 0).2 wBlock 1).2).2 sOpen) []).2 wRest) wRate) 6 1000000000000).2 sSemi) sShut).i < n := Nat.lt_of_le_of_lt (wnt_le ts (P.wnt ts (P.wnt ts (P.numS ts (P.wnt ts (P.wnt ts (P.tiersS ts ts.length (P.wnt ts (P.kindS ts (P.optS ts (P.optS ts (P.wnt ts (P.winS ts (P.tkn ts s 1).2).2 sOpen) wAllowance 0).2 wBlock 1).2).2 sOpen) []).2 wRest) wRate) 6 1000000000000).2 sSemi) sShut) wRound) b14
  have b12 : (P.wnt ts (P.numS ts (P.wnt ts (P.wnt ts (P.tiersS ts ts.length (P.wnt ts (P.kindS ts (P.optS ts (P.optS ts (P.wnt ts (P.winS ts (P.tkn ts s 1).2).2 sOpen) wAllowance 0).2 wBlock 1).2).2 sOpen) []).2 wRest) wRate) 6 1000000000000).2 sSemi).i < n := Nat.lt_of_le_of_lt (wnt_le ts (P.wnt ts (P.numS ts (P.wnt ts (P.wnt ts (P.tiersS ts ts.length (P.wnt ts (P.kindS ts (P.optS ts (P.optS ts (P.wnt ts (P.winS ts (P.tkn ts s 1).2).2 sOpen) wAllowance 0).2 wBlock 1).2).2 sOpen) []).2 wRest) wRate) 6 1000000000000).2 sSemi) sShut) b13
  have b11 : (P.numS ts (P.wnt ts (P.wnt ts (P.tiersS ts ts.length (P.wnt ts (P.kindS ts (P.optS ts (P.optS ts (P.wnt ts (P.winS ts (P.tkn ts s 1).2).2 sOpen) wAllowance 0).2 wBlock 1).2).2 sOpen) []).2 wRest) wRate) 6 1000000000000).2.i < n := Nat.lt_of_le_of_lt (wnt_le ts (P.numS ts (P.wnt ts (P.wnt ts (P.tiersS ts ts.length (P.wnt ts (P.kindS ts (P.optS ts (P.optS ts (P.wnt ts (P.winS ts (P.tkn ts s 1).2).2 sOpen) wAllowance 0).2 wBlock 1).2).2 sOpen) []).2 wRest) wRate) 6 1000000000000).2 sSemi) b12
  have b10 : (P.wnt ts (P.wnt ts (P.tiersS ts ts.length (P.wnt ts (P.kindS ts (P.optS ts (P.optS ts (P.wnt ts (P.winS ts (P.tkn ts s 1).2).2 sOpen) wAllowance 0).2 wBlock 1).2).2 sOpen) []).2 wRest) wRate).i < n := Nat.lt_of_le_of_lt (numS_le ts (P.wnt ts (P.wnt ts (P.tiersS ts ts.length (P.wnt ts (P.kindS ts (P.optS ts (P.optS ts (P.wnt ts (P.winS ts (P.tkn ts s 1).2).2 sOpen) wAllowance 0).2 wBlock 1).2).2 sOpen) []).2 wRest) wRate) 6 1000000000000) b11
  have b9 : (P.wnt ts (P.tiersS ts ts.length (P.wnt ts (P.kindS ts (P.optS ts (P.optS ts (P.wnt ts (P.winS ts (P.tkn ts s 1).2).2 sOpen) wAllowance 0).2 wBlock 1).2).2 sOpen) []).2 wRest).i < n := Nat.lt_of_le_of_lt (wnt_le ts (P.wnt ts (P.tiersS ts ts.length (P.wnt ts (P.kindS ts (P.optS ts (P.optS ts (P.wnt ts (P.winS ts (P.tkn ts s 1).2).2 sOpen) wAllowance 0).2 wBlock 1).2).2 sOpen) []).2 wRest) wRate) b10
  have b8 : (P.tiersS ts ts.length (P.wnt ts (P.kindS ts (P.optS ts (P.optS ts (P.wnt ts (P.winS ts (P.tkn ts s 1).2).2 sOpen) wAllowance 0).2 wBlock 1).2).2 sOpen) []).2.i < n := Nat.lt_of_le_of_lt (wnt_le ts (P.tiersS ts ts.length (P.wnt ts (P.kindS ts (P.optS ts (P.optS ts (P.wnt ts (P.winS ts (P.tkn ts s 1).2).2 sOpen) wAllowance 0).2 wBlock 1).2).2 sOpen) []).2 wRest) b9
  have b7 : (P.wnt ts (P.kindS ts (P.optS ts (P.optS ts (P.wnt ts (P.winS ts (P.tkn ts s 1).2).2 sOpen) wAllowance 0).2 wBlock 1).2).2 sOpen).i < n := Nat.lt_of_le_of_lt (tiersS_le ts ts.length (P.wnt ts (P.kindS ts (P.optS ts (P.optS ts (P.wnt ts (P.winS ts (P.tkn ts s 1).2).2 sOpen) wAllowance 0).2 wBlock 1).2).2 sOpen) []) b8
  have b6 : (P.kindS ts (P.optS ts (P.optS ts (P.wnt ts (P.winS ts (P.tkn ts s 1).2).2 sOpen) wAllowance 0).2 wBlock 1).2).2.i < n := Nat.lt_of_le_of_lt (wnt_le ts (P.kindS ts (P.optS ts (P.optS ts (P.wnt ts (P.winS ts (P.tkn ts s 1).2).2 sOpen) wAllowance 0).2 wBlock 1).2).2 sOpen) b7
  have b5 : (P.optS ts (P.optS ts (P.wnt ts (P.winS ts (P.tkn ts s 1).2).2 sOpen) wAllowance 0).2 wBlock 1).2.i < n := Nat.lt_of_le_of_lt (kindS_le ts (P.optS ts (P.optS ts (P.wnt ts (P.winS ts (P.tkn ts s 1).2).2 sOpen) wAllowance 0).2 wBlock 1).2) b6
  have b4 : (P.optS ts (P.wnt ts (P.winS ts (P.tkn ts s 1).2).2 sOpen) wAllowance 0).2.i < n := Nat.lt_of_le_of_lt (optS_le ts (P.optS ts (P.wnt ts (P.winS ts (P.tkn ts s 1).2).2 sOpen) wAllowance 0).2 wBlock 1) b5
  have b3 : (P.wnt ts (P.winS ts (P.tkn ts s 1).2).2 sOpen).i < n := Nat.lt_of_le_of_lt (optS_le ts (P.wnt ts (P.winS ts (P.tkn ts s 1).2).2 sOpen) wAllowance 0) b4
  have b2 : (P.winS ts (P.tkn ts s 1).2).2.i < n := Nat.lt_of_le_of_lt (wnt_le ts (P.winS ts (P.tkn ts s 1).2).2 sOpen) b3
  have b1 : (P.tkn ts s 1).2.i < n := Nat.lt_of_le_of_lt (winS_le ts (P.tkn ts s 1).2) b2
  have b0 : s.i < n := Nat.lt_of_le_of_lt (tkn_le ts s 1) b1
  have o0 := ok
  have q0 := ok'
  have o1 := o0.tkn (k := 1) (by decide)
  have q1 := q0.tkn (k := 1) (by decide)
  have a1 := Sm.tkn A (h) b0 1
  have o2 := o1.winS
  have q2 := q1.winS
  have a2 := Sm.winS A (a1.2) b2
  have o3 := o2.wnt sOpen
  have q3 := q2.wnt sOpen
  have a3 := Sm.wnt A (a2.2) b2 sOpen
  have o4 := o3.optS wAllowance 0
  have q4 := q3.optS wAllowance 0
  have a4 := Sm.optS A (a3) b4
  have o5 := o4.optS wBlock 1
  have q5 := q4.optS wBlock 1
  have a5 := Sm.optS A (a4.2) b5
  have o6 := o5.kindS
  have q6 := q5.kindS
  have a6 := Sm.kindS A (a5.2) b6
  have o7 := o6.wnt sOpen
  have q7 := q6.wnt sOpen
  have a7 := Sm.wnt A (a6.2) b6 sOpen
  have o8 := Ok.tiersS ts.length (P.wnt ts (P.kindS ts (P.optS ts (P.optS ts (P.wnt ts (P.winS ts (P.tkn ts s 1).2).2 sOpen) wAllowance 0).2 wBlock 1).2).2 sOpen) [] o7
  have q8 := Ok.tiersS ts'.length (P.wnt ts' (P.kindS ts' (P.optS ts' (P.optS ts' (P.wnt ts' (P.winS ts' (P.tkn ts' s' 1).2).2 sOpen) wAllowance 0).2 wBlock 1).2).2 sOpen) [] q7
  have a8 := Sm.tiersF A o7 q7 a7 b8
  have o9 := o8.wnt wRest
  have q9 := q8.wnt wRest
  have a9 := Sm.wnt A (a8.2) b8 wRest
  have o10 := o9.wnt wRate
  have q10 := q9.wnt wRate
  have a10 := Sm.wnt A (a9) b9 wRate
  have o11 := o10.numS 6 1000000000000
  have q11 := q10.numS 6 1000000000000
  have a11 := Sm.numS A (a10) b10 6 1000000000000
  have o12 := o11.wnt sSemi
  have q12 := q11.wnt sSemi
  have a12 := Sm.wnt A (a11.2) b11 sSemi
  have o13 := o12.wnt sShut
  have q13 := q12.wnt sShut
  have a13 := Sm.wnt A (a12) b12 sShut
  have o14 := o13.wnt wRound
  have q14 := q13.wnt wRound
  have a14 := Sm.wnt A (a13) b13 wRound
  have o15 := o14.modeS
  have q15 := q14.modeS
  have a15 := Sm.modeS A (a14) b15
  have o16 := o15.wnt sSemi
  have q16 := q15.wnt sSemi
  have a16 := Sm.wnt A (a15.2) b15 sSemi
  have o17 := Ok.adjsS ts.length (P.wnt ts (P.modeS ts (P.wnt ts (P.wnt ts (P.wnt ts (P.numS ts (P.wnt ts (P.wnt ts (P.tiersS ts ts.length (P.wnt ts (P.kindS ts (P.optS ts (P.optS ts (P.wnt ts (P.winS ts (P.tkn ts s 1).2).2 sOpen) wAllowance 0).2 wBlock 1).2).2 sOpen) []).2 wRest) wRate) 6 1000000000000).2 sSemi) sShut) wRound)).2 sSemi) [] o16
  have q17 := Ok.adjsS ts'.length (P.wnt ts' (P.modeS ts' (P.wnt ts' (P.wnt ts' (P.wnt ts' (P.numS ts' (P.wnt ts' (P.wnt ts' (P.tiersS ts' ts'.length (P.wnt ts' (P.kindS ts' (P.optS ts' (P.optS ts' (P.wnt ts' (P.winS ts' (P.tkn ts' s' 1).2).2 sOpen) wAllowance 0).2 wBlock 1).2).2 sOpen) []).2 wRest) wRate) 6 1000000000000).2 sSemi) sShut) wRound)).2 sSemi) [] q16
  have a17 := Sm.adjsF A o16 q16 a16 b17
  exact ⟨nC_of a1.1 a2.1 a4.1 a5.1 a6.1 a8.1 a11.1 a15.1 a17.1, Sm.wnt A (a17.2) b17 sShut⟩
end
/-- The second plan holds what a third and the first hold, but for places. -/
structure Rl (p0 p q : Plan) : Prop where
  hd : q.name = p0.name ∧ q.cur = p0.cur ∧ q.a = p0.a ∧ q.b = p0.b
  meters : q.meters.map nM = p0.meters.map nM ++ p.meters.map nM
  fees : q.fees.map nF = p0.fees.map nF ++ p.fees.map nF
  charges : q.charges.map nC = p0.charges.map nC ++ p.charges.map nC
theorem wnt_start {n : Nat} {ts : List Tok} {x : St} {l : List UInt8} (h : (wnt ts x l).i < n ∨ ((wnt ts x l).err = 0 ∧ (wnt ts x l).i ≤ n)) : x.i < n := by
  rcases h with h | ⟨h1, h2⟩
  · exact Nat.lt_of_le_of_lt (wnt_le ts x l) h
  · unfold wnt at h1 h2
    by_cases c : onW ts x l = true
    · rw [if_pos c] at h2
      have : x.i + 1 ≤ n := h2
      omega
    · rw [if_neg c, wrgErr] at h1
      split at h1
      · cases h1
      · rename_i k; exact absurd h1 k
theorem Rl.item {n d : Nat} {ts ts' : List Tok} {s s' : St} {p0 p q : Plan} (A : Al n d ts ts') (ok : Ok ts s) (ok' : Ok ts' s') (h : Sm d s s') (g : Rl p0 p q) (hs : s.i < n) (hi : (itemS ts s p).2.i < n ∨ ((itemS ts s p).2.err = 0 ∧ (itemS ts s p).2.i ≤ n)) :
    Rl p0 (itemS ts s p).1 (itemS ts' s' q).1 ∧ Sm d (itemS ts s p).2 (itemS ts' s' q).2 := by
  have a := Sm.oneS A h hs itemWords
  have k := ok.oneS itemWords
  have k' := ok'.oneS itemWords
  obtain ⟨l', hl'⟩ : ∃ x, x = (tk ts' s').ln := ⟨_, rfl⟩
  obtain ⟨c', hc'⟩ : ∃ x, x = (tk ts' s').cl := ⟨_, rfl⟩
  obtain ⟨l, hl⟩ : ∃ x, x = (tk ts s).ln := ⟨_, rfl⟩
  obtain ⟨c, hc⟩ : ∃ x, x = (tk ts s).cl := ⟨_, rfl⟩
  unfold itemS at hi ⊢
  simp only at hi ⊢
  rw [← a.1, ← hl', ← hc', ← hl, ← hc]
  rw [← hl, ← hc] at hi
  clear hl hc hl' hc'
  obtain ⟨r, hr⟩ : ∃ r, r = (oneS ts s itemWords).1 := ⟨_, rfl⟩
  obtain ⟨u, hu⟩ : ∃ u, u = (oneS ts s itemWords).2 := ⟨_, rfl⟩
  obtain ⟨u', hu'⟩ : ∃ u', u' = (oneS ts' s' itemWords).2 := ⟨_, rfl⟩
  rw [← hr, ← hu] at hi ⊢
  rw [← hu']
  have a2 := a.2
  rw [← hu, ← hu'] at a2
  rw [← hu] at k
  rw [← hu'] at k'
  clear a hr hu hu'
  by_cases e0 : r = 0
  · rw [if_pos e0] at hi ⊢
    rw [if_pos e0]
    have m := Sm.meterS A k k' a2 (wnt_start hi) l c l' c'
    refine ⟨⟨g.hd, ?_, g.fees, g.charges⟩, m.2⟩
    show (q.meters ++ [_]).map nM = _ ++ (p.meters ++ [_]).map nM
    rw [List.map_append, List.map_append, g.meters, List.map_singleton, List.map_singleton, m.1, List.append_assoc]
  · rw [if_neg e0] at hi ⊢
    rw [if_neg e0]
    by_cases e1 : r = 1
    · rw [if_pos e1] at hi ⊢
      rw [if_pos e1]
      have m := Sm.feeS A k k' a2 (wnt_start hi) l c l' c'
      refine ⟨⟨g.hd, g.meters, ?_, g.charges⟩, m.2⟩
      show (q.fees ++ [_]).map nF = _ ++ (p.fees ++ [_]).map nF
      rw [List.map_append, List.map_append, g.fees, List.map_singleton, List.map_singleton, m.1, List.append_assoc]
    · rw [if_neg e1] at hi ⊢
      rw [if_neg e1]
      by_cases e2 : r = 2
      · rw [if_pos e2] at hi ⊢
        rw [if_pos e2]
        have m := Sm.chargeS A k k' a2 (wnt_start hi) l c l' c'
        refine ⟨⟨g.hd, g.meters, g.fees, ?_⟩, m.2⟩
        show (q.charges ++ [_]).map nC = _ ++ (p.charges ++ [_]).map nC
        rw [List.map_append, List.map_append, g.charges, List.map_singleton, List.map_singleton, m.1, List.append_assoc]
      · rw [if_neg e2] at hi ⊢
        rw [if_neg e2]
        exact ⟨g, a2.wrg 4⟩
end Go.Proofs.Ytcbeocpllnmcjaa.P

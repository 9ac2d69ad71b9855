/- Two texts, one behind the other, as tokens; tokens with notes between them: no program is named here. -/
import Derived.Test.YteelbdcgdkpioaaGreatDoorJLexR
import Derived.Test.YteelbdcgdkpioaaGreatDoorJShT
namespace Go.Proofs.YteelbdcgdkpioaaGreatDoor.P
open Go.RowKit

theorem run_over {p : UInt8 → Bool} (r m : List UInt8) {c : UInt8} (h : p c = false) : run p (r ++ c :: m) = run p r := by
  induction r with
  | nil => simp [run, h]
  | cons x r ih => simp only [List.cons_append, run, ih]
theorem piece_over (l m : List UInt8) (h : l ≠ []) : piece (l ++ 10 :: m) = piece l := by
  cases l with
  | nil => exact absurd rfl h
  | cons c r =>
    rw [List.cons_append, piece_cons, piece_cons, run_over (p := fun x => !(x == 10)) r m (by decide), run_over (p := isLt) r m (by decide)]
/-- Where one text ends and another begins. -/
theorem lex_over (n : Nat) (a b : List UInt8) (ln cl : Nat) (hn : a.length ≤ n) :
    (∃ ts p, lex a ln cl = (ts, some p) ∧ lex (a ++ 10 :: b) ln cl = (ts, some p)) ∨
    ∃ init u v, lex a ln cl = (init ++ [⟨0, [], u, v⟩], none) ∧ lex (a ++ 10 :: b) ln cl = (init ++ (lex b (u + 1) 1).1, (lex b (u + 1) 1).2) ∧ ln ≤ u := by
  induction n generalizing a ln cl with
  | zero =>
    obtain rfl : a = [] := List.eq_nil_of_length_eq_zero (by omega)
    refine .inr ⟨[], ln, cl, rfl, ?_, Nat.le_refl _⟩
    rw [List.nil_append, lex_skip (by decide)]
    rfl
  | succ n ih =>
    cases a with
    | nil =>
      refine .inr ⟨[], ln, cl, rfl, ?_, Nat.le_refl _⟩
      rw [List.nil_append, lex_skip (by decide)]
      rfl
    | cons c r =>
      have hp := piece_pos c r
      have hl := piece_le (c :: r)
      have e1 := piece_over (c :: r) b (by simp)
      have e2 : ((c :: r) ++ 10 :: b).take (piece (c :: r)) = (c :: r).take (piece (c :: r)) := by rw [List.take_append_of_le_length hl]
      have e3 : ((c :: r) ++ 10 :: b).drop (piece (c :: r)) = (c :: r).drop (piece (c :: r)) ++ 10 :: b := by rw [List.drop_append_of_le_length hl]
      have hd : ((c :: r).drop (piece (c :: r))).length ≤ n := by rw [List.length_drop]; simp only [List.length_cons] at hn ⊢; omega
      rw [List.cons_append] at e1 e2 e3
      cases hs : skips c
      · by_cases hk : kd ((c :: r).take (piece (c :: r))) = 0
        · refine .inl ⟨[], (ln, cl), lex_bad hs hk ln cl, ?_⟩
          rw [List.cons_append]
          exact lex_bad hs (by rw [e1, e2]; exact hk) ln cl
        · have h1 := lex_tok hs hk ln cl
          have h2 := lex_tok (c := c) (r := r ++ 10 :: b) hs (by rw [e1, e2]; exact hk) ln cl
          rw [e1, e2, e3] at h2
          rw [List.cons_append, h1, h2]
          rcases ih _ ln (cl + piece (c :: r)) hd with ⟨ts, p, g1, g2⟩ | ⟨init, u, v, g1, g2, g3⟩
          · rw [g1, g2]
            exact .inl ⟨_, _, rfl, rfl⟩
          · rw [g1, g2]
            exact .inr ⟨_ :: init, u, v, rfl, rfl, g3⟩
      · have h1 := lex_skip (r := r) hs ln cl
        have h2 := lex_skip (c := c) (r := r ++ 10 :: b) hs ln cl
        rw [e1, e3] at h2
        rw [List.cons_append, h1, h2]
        rcases ih _ _ _ hd with g | ⟨init, u, v, g1, g2, g3⟩
        · exact .inl g
        · refine .inr ⟨init, u, v, g1, g2, ?_⟩
          revert g3
          split <;> omega
/-- Further down. -/
def down (d : Nat) (t : Tok) : Tok := ⟨t.k, t.t, t.ln + d, t.cl⟩
theorem lx_down (n : Nat) (l : List UInt8) (ln cl d : Nat) : lx n l (ln + d) cl = ((lx n l ln cl).1.map (down d), (lx n l ln cl).2.map fun p => (p.1 + d, p.2)) := by
  induction n generalizing l ln cl with
  | zero => rfl
  | succ n ih =>
    cases l with
    | nil => rfl
    | cons c r =>
      unfold lx
      by_cases hs : skips c = true
      · rw [if_pos hs, if_pos hs]
        by_cases hc : (c == 10) = true
        · rw [if_pos hc, if_pos hc, if_pos hc, show ln + d + 1 = ln + 1 + d by omega]
          exact ih _ _ _
        · rw [if_neg hc, if_neg hc, if_neg hc]
          exact ih _ _ _
      · rw [if_neg hs, if_neg hs]
        by_cases hk : kd ((c :: r).take (piece (c :: r))) = 0
        · rw [if_pos hk, if_pos hk]
          rfl
        · rw [if_neg hk, if_neg hk, ih]
          rfl
theorem lex_down (l : List UInt8) (ln cl d : Nat) : lex l (ln + d) cl = ((lex l ln cl).1.map (down d), (lex l ln cl).2.map fun p => (p.1 + d, p.2)) := lx_down _ _ _ _ _
/-- No line is further down than there are bytes. -/
theorem lx_lines (n : Nat) (l : List UInt8) (ln cl : Nat) : (∀ t ∈ (lx n l ln cl).1, t.ln ≤ ln + l.length) ∧ ∀ p, (lx n l ln cl).2 = some p → p.1 ≤ ln + l.length := by
  induction n generalizing l ln cl with
  | zero =>
    refine ⟨fun t ht => ?_, fun p hp => by cases hp⟩
    simp only [lx, List.mem_singleton] at ht
    subst ht
    exact Nat.le_add_right _ _
  | succ n ih =>
    cases l with
    | nil =>
      refine ⟨fun t ht => ?_, fun p hp => by cases hp⟩
      simp only [lx, List.mem_singleton] at ht
      subst ht
      exact Nat.le_add_right _ _
    | cons c r =>
      have hp := piece_pos c r
      have hl := piece_le (c :: r)
      have hld : ((c :: r).drop (piece (c :: r))).length = (c :: r).length - piece (c :: r) := List.length_drop
      have step : ∀ ln' cl', ln' ≤ ln + 1 → (∀ t ∈ (lx n ((c :: r).drop (piece (c :: r))) ln' cl').1, t.ln ≤ ln + (c :: r).length) ∧ ∀ p, (lx n ((c :: r).drop (piece (c :: r))) ln' cl').2 = some p → p.1 ≤ ln + (c :: r).length := fun ln' cl' h => by
        have := ih ((c :: r).drop (piece (c :: r))) ln' cl'
        exact ⟨fun t ht => by have := this.1 t ht; omega, fun p hp => by have := this.2 p hp; omega⟩
      unfold lx
      split
      · exact step _ _ (by split <;> omega)
      · split
        · exact ⟨(fun t ht => by cases ht), (fun p hp => by cases hp; exact Nat.le_add_right _ _)⟩
        · have g := step ln (cl + piece (c :: r)) (by omega)
          refine ⟨fun t ht => ?_, fun p hp => g.2 p hp⟩
          rcases List.mem_cons.1 ht with rfl | ht
          · exact Nat.le_add_right _ _
          · exact g.1 t ht
/-- What three Lex answer. -/
theorem lexed_joins (a b : List UInt8) (ha : a.length ≤ 4096) (hb : b.length < 4096) :
    (∃ p q, lexed a = ([], 3, p, q) ∧ lexed (a ++ 10 :: b) = ([], 3, p, q)) ∨
    ∃ init u v, lexed a = (init ++ [⟨0, [], u, v⟩], 0, 0, 0) ∧
      u ≤ 4097 ∧ ((∃ p q, lexed b = ([], 3, p, q) ∧ lexed (a ++ 10 :: b) = ([], 3, p + u, q) ∧ p ≤ 4097) ∨
       ∃ ys, lexed b = (ys, 0, 0, 0) ∧ lexed (a ++ 10 :: b) = (init ++ ys.map (down u), 0, 0, 0) ∧ ∀ t ∈ ys, t.ln ≤ 4097) := by
  have hab : (a ++ 10 :: b).length ≤ 8192 := by rw [List.length_append, List.length_cons]; omega
  rcases lex_over a.length a b 1 1 (Nat.le_refl _) with ⟨ts, ⟨p, q⟩, h1, h2⟩ | ⟨init, u, v, h1, h2, _⟩
  · exact .inl ⟨p, q, lexed_bad (by omega) h1, lexed_bad hab h2⟩
  · have hu : u ≤ 1 + a.length := by
      have := (lx_lines a.length a 1 1).1 ⟨0, [], u, v⟩ (by
        show _ ∈ (lex a 1 1).1
        rw [h1]; simp)
      exact this
    have hlb : (∀ t ∈ (lex b 1 1).1, t.ln ≤ 1 + b.length) ∧ ∀ p, (lex b 1 1).2 = some p → p.1 ≤ 1 + b.length := lx_lines b.length b 1 1
    refine .inr ⟨init, u, v, lexed_ok (by omega) h1, by omega, ?_⟩
    have e := lex_down b 1 1 u
    rw [show 1 + u = u + 1 by omega] at e
    rw [e] at h2
    cases hl : lex b 1 1 with
    | mk ys o =>
      rw [hl] at h2 hlb
      cases o with
      | none => exact .inr ⟨ys, lexed_ok (by omega) hl, lexed_ok hab h2, fun t ht => by have := hlb.1 t ht; omega⟩
      | some p => exact .inl ⟨p.1, p.2, lexed_bad (by omega) hl, lexed_bad hab h2, by have := hlb.2 p rfl; omega⟩
end Go.Proofs.YteelbdcgdkpioaaGreatDoor.P
/- Tokens that read alike, as plans: what the parser makes of them is alike, but for places. Pure: no program is named here. -/
namespace Go.Proofs.YteelbdcgdkpioaaGreatDoor.P
open Go.RowKit Mm R6

/-- Two rows of tokens read alike from some place on, up to some place. -/
def Al (n d : Nat) (ts ts' : List Tok) : Prop := ∀ j, j < n → (ts.getD j nil0).k = (ts'.getD (j + d) nil0).k ∧ (ts.getD j nil0).t = (ts'.getD (j + d) nil0).t
/-- Two parsers stand at such places. -/
structure Sm (d : Nat) (s s' : St) : Prop where
  err : s.err = s'.err
  ix : s'.i = s.i + d
section
variable {n d : Nat} {ts ts' : List Tok} {s s' : St}
theorem Sm.tok (A : Al n d ts ts') (h : Sm d s s') (hi : s.i < n) : (tk ts s).k = (tk ts' s').k ∧ (tk ts s).t = (tk ts' s').t := by
  have := A s.i hi
  unfold tk
  rw [h.ix]
  exact this
theorem Sm.next (h : Sm d s s') : Sm d s.next s'.next := ⟨h.err, by show s'.i + 1 = s.i + 1 + d; rw [h.ix]; omega⟩
theorem wrgErr (ts : List Tok) (s : St) (e : Int) : (P.wrg ts s e).err = if s.err = 0 then e else s.err := by unfold P.wrg; split <;> rfl
theorem Sm.wrg (h : Sm d s s') (e : Int) : Sm d (wrg ts s e) (wrg ts' s' e) := ⟨by rw [wrgErr, wrgErr, h.err], by rw [wrg_i, wrg_i, h.ix]⟩
theorem Sm.onW (A : Al n d ts ts') (h : Sm d s s') (hi : s.i < n) (l : List UInt8) : onW ts s l = onW ts' s' l := by
  unfold P.onW
  rw [(Sm.tok A h hi).1, (Sm.tok A h hi).2, h.err]
theorem Sm.isTk (A : Al n d ts ts') (h : Sm d s s') (hi : s.i < n) (k : Nat) : isTk ts s k = isTk ts' s' k := by
  unfold P.isTk
  rw [(Sm.tok A h hi).1, h.err]
theorem Sm.wnt (A : Al n d ts ts') (h : Sm d s s') (hi : s.i < n) (l : List UInt8) : Sm d (wnt ts s l) (wnt ts' s' l) := by
  unfold P.wnt
  rw [← Sm.onW A h hi l]
  split
  · exact h.next
  · exact h.wrg 4
theorem Sm.tkn (A : Al n d ts ts') (h : Sm d s s') (hi : s.i < n) (k : Nat) : (tkn ts s k).1 = (tkn ts' s' k).1 ∧ Sm d (tkn ts s k).2 (tkn ts' s' k).2 := by
  unfold P.tkn
  rw [← Sm.isTk A h hi k]
  split
  · exact ⟨(Sm.tok A h hi).2, h.next⟩
  · exact ⟨rfl, h.wrg 4⟩
theorem Sm.bad (h : Sm d s s') (v : Int) : Sm d (bad ts s v) (bad ts' s' v) := by
  unfold P.bad
  split
  · exact h.wrg 4
  · split
    · exact h.wrg 6
    · exact h
theorem Sm.numS (A : Al n d ts ts') (h : Sm d s s') (hi : s.i < n) (p m : Int) : (numS ts s p m).1 = (numS ts' s' p m).1 ∧ Sm d (numS ts s p m).2 (numS ts' s' p m).2 := by
  unfold P.numS
  rw [← Sm.isTk A h hi 3, ← (Sm.tok A h hi).2]
  split
  · exact ⟨rfl, (h.bad _).next⟩
  · exact ⟨rfl, h.wrg 4⟩
theorem Sm.dayS (A : Al n d ts ts') (h : Sm d s s') (hi : s.i < n) : (dayS ts s).1 = (dayS ts' s').1 ∧ Sm d (dayS ts s).2 (dayS ts' s').2 := by
  have a := Sm.tkn A h hi 4
  unfold P.dayS
  rw [a.1]
  exact ⟨rfl, a.2⟩
theorem Sm.winS (A : Al n d ts ts') (h : Sm d s s') (hi : (P.winS ts s).2.i < n) : (winS ts s).1 = (winS ts' s').1 ∧ Sm d (winS ts s).2 (winS ts' s').2 := by
  have h0 : s.i < n := Nat.lt_of_le_of_lt (winS_le ts s) hi
  unfold P.winS at hi ⊢
  rw [← Sm.onW A h h0 wFrom]
  by_cases c : P.onW ts s wFrom = true
  · simp only [if_pos c] at hi ⊢
    have l1 : s.next.i ≤ (P.dayS ts s.next).2.i := tkn_le ts s.next 4
    have l2 := wnt_le ts (P.dayS ts s.next).2 wTo
    have l3 : (P.wnt ts (P.dayS ts s.next).2 wTo).i ≤ (P.dayS ts (P.wnt ts (P.dayS ts s.next).2 wTo)).2.i := tkn_le ts _ 4
    have a1 := Sm.dayS A h.next (by omega)
    have a2 := Sm.wnt A a1.2 (by omega) wTo
    have a3 := Sm.dayS A a2 (by omega)
    rw [a1.1, a3.1]
    exact ⟨rfl, a3.2⟩
  · simp only [if_neg c] at hi ⊢
    exact ⟨trivial, h⟩
theorem Sm.oneAt (A : Al n d ts ts') (h : Sm d s s') (hi : s.i < n) : ∀ (ws : List (List UInt8)) (k : Int), (oneAt ts s ws k).1 = (oneAt ts' s' ws k).1 ∧ Sm d (oneAt ts s ws k).2 (oneAt ts' s' ws k).2
  | [], _ => ⟨rfl, h⟩
  | w :: r, k => by
    unfold P.oneAt
    rw [← Sm.onW A h hi w]
    split
    · exact ⟨rfl, h.next⟩
    · exact Sm.oneAt A h hi r (k + 1)
theorem Sm.oneS (A : Al n d ts ts') (h : Sm d s s') (hi : s.i < n) (ws : List (List UInt8)) : (oneS ts s ws).1 = (oneS ts' s' ws).1 ∧ Sm d (oneS ts s ws).2 (oneS ts' s' ws).2 := Sm.oneAt A h hi ws 0
theorem Sm.modeS (A : Al n d ts ts') (h : Sm d s s') (hi : (P.modeS ts s).2.i < n) : (modeS ts s).1 = (modeS ts' s').1 ∧ Sm d (modeS ts s).2 (modeS ts' s').2 := by
  have h0 : s.i < n := Nat.lt_of_le_of_lt (modeS_le ts s) hi
  have a := Sm.oneS A h h0 modes
  unfold P.modeS
  rw [← a.1]
  split
  · exact ⟨rfl, a.2.wrg 4⟩
  · exact a
theorem Sm.kindS (A : Al n d ts ts') (h : Sm d s s') (hi : (P.kindS ts s).2.i < n) : (kindS ts s).1 = (kindS ts' s').1 ∧ Sm d (kindS ts s).2 (kindS ts' s').2 := by
  have h0 : s.i < n := Nat.lt_of_le_of_lt (kindS_le ts s) hi
  have a := Sm.oneS A h h0 kinds
  unfold P.kindS
  simp only
  rw [← a.1]
  refine ⟨rfl, ?_⟩
  split
  · exact a.2.wrg 4
  · exact a.2
theorem Sm.optS (A : Al n d ts ts') (h : Sm d s s') {l : List UInt8} {v : Int} (hi : (P.optS ts s l v).2.i < n) : (optS ts s l v).1 = (optS ts' s' l v).1 ∧ Sm d (optS ts s l v).2 (optS ts' s' l v).2 := by
  have h0 : s.i < n := Nat.lt_of_le_of_lt (optS_le ts s l v) hi
  unfold P.optS at hi ⊢
  rw [← Sm.onW A h h0 l]
  by_cases c : P.onW ts s l = true
  · simp only [if_pos c] at hi ⊢
    have l1 := numS_le ts s.next 0 1000000
    have l2 := wnt_le ts (P.numS ts s.next 0 1000000).2 sSemi
    have a1 := Sm.numS A h.next (by omega) 0 1000000
    exact ⟨a1.1, Sm.wnt A a1.2 (by omega) sSemi⟩
  · simp only [if_neg c] at hi ⊢
    exact ⟨trivial, h⟩
theorem Sm.tierS (A : Al n d ts ts') (h : Sm d s s') (hi : (P.tierS ts s).2.i < n) : (tierS ts s).1 = (tierS ts' s').1 ∧ Sm d (tierS ts s).2 (tierS ts' s').2 := by
  have l1 := numS_le ts s 0 1000000
  have l2 := wnt_le ts (P.numS ts s 0 1000000).2 wRate
  have l3 := numS_le ts (P.wnt ts (P.numS ts s 0 1000000).2 wRate) 6 1000000000000
  have l4 := wnt_le ts (P.numS ts (P.wnt ts (P.numS ts s 0 1000000).2 wRate) 6 1000000000000).2 sSemi
  unfold P.tierS at hi ⊢
  simp only at hi ⊢
  have a1 := Sm.numS A h (by omega) 0 1000000
  have a2 := Sm.wnt A a1.2 (by omega) wRate
  have a3 := Sm.numS A a2 (by omega) 6 1000000000000
  rw [a1.1, a3.1]
  exact ⟨rfl, Sm.wnt A a3.2 (by omega) sSemi⟩
end
theorem Sm.tiers {n d : Nat} {ts ts' : List Tok} (A : Al n d ts ts') : ∀ (m : Nat) (s s' : St) (acc : List Tier), Sm d s s' → (tiersS ts m s acc).2.i < n → (tiersS ts m s acc).1 = (tiersS ts' m s' acc).1 ∧ Sm d (tiersS ts m s acc).2 (tiersS ts' m s' acc).2
  | 0, _, _, _, h, _ => ⟨rfl, h⟩
  | m + 1, s, s', acc, h, hi => by
    have h0 : s.i < n := Nat.lt_of_le_of_lt (tiersS_le ts (m + 1) s acc) hi
    unfold tiersS at hi ⊢
    rw [← Sm.onW A h h0 wUpto]
    by_cases c : P.onW ts s wUpto = true
    · simp only [if_pos c] at hi ⊢
      have a := Sm.tierS A h.next (Nat.lt_of_le_of_lt (tiersS_le ts m _ _) hi)
      rw [← a.1]
      exact Sm.tiers A m _ _ _ a.2 hi
    · simp only [if_neg c] at hi ⊢
      exact ⟨trivial, h⟩
theorem Sm.adjS {n d : Nat} {ts ts' : List Tok} {s s' : St} (A : Al n d ts ts') (h : Sm d s s') (k : Int) (hi : (P.adjS ts s k).2.i < n) : (adjS ts s k).1 = (adjS ts' s' k).1 ∧ Sm d (adjS ts s k).2 (adjS ts' s' k).2 := by
  unfold P.adjS at hi ⊢
  by_cases c : k = 1
  · simp only [if_pos c] at hi ⊢
    have l1 := numS_le ts s 3 100000000
    have l2 := modeS_le ts (P.numS ts s 3 100000000).2
    have l3 := wnt_le ts (P.modeS ts (P.numS ts s 3 100000000).2).2 sSemi
    have a1 := Sm.numS A h (by omega) 3 100000000
    have a2 := Sm.modeS A a1.2 (by omega)
    rw [a1.1, a2.1]
    exact ⟨rfl, Sm.wnt A a2.2 (by omega) sSemi⟩
  · simp only [if_neg c] at hi ⊢
    have l1 := numS_le ts s 0 1000000000000
    have l3 := wnt_le ts (P.numS ts s 0 1000000000000).2 sSemi
    have a1 := Sm.numS A h (by omega) 0 1000000000000
    rw [a1.1]
    exact ⟨rfl, Sm.wnt A a1.2 (by omega) sSemi⟩
theorem Sm.adjs {n d : Nat} {ts ts' : List Tok} (A : Al n d ts ts') : ∀ (m : Nat) (s s' : St) (acc : List Adj), Sm d s s' → (adjsS ts m s acc).2.i < n → (adjsS ts m s acc).1 = (adjsS ts' m s' acc).1 ∧ Sm d (adjsS ts m s acc).2 (adjsS ts' m s' acc).2
  | 0, _, _, _, h, _ => ⟨rfl, h⟩
  | m + 1, s, s', acc, h, hi => by
    have h0 : s.i < n := Nat.lt_of_le_of_lt (adjsS_le ts (m + 1) s acc) hi
    have a := Sm.oneS A h h0 adjWords
    unfold adjsS at hi ⊢
    simp only at hi ⊢
    rw [← a.1]
    by_cases c : 1 + (P.oneS ts s adjWords).1 = 0
    · simp only [if_pos c] at hi ⊢
      exact ⟨trivial, a.2⟩
    · simp only [if_neg c] at hi ⊢
      have b := Sm.adjS A a.2 (1 + (P.oneS ts s adjWords).1) (Nat.lt_of_le_of_lt (adjsS_le ts m _ _) hi)
      rw [← b.1]
      exact Sm.adjs A m _ _ _ b.2 hi
section
variable {n d : Nat} {ts ts' : List Tok} {s s' : St}
theorem Sm.tiersF (A : Al n d ts ts') (ok : Ok ts s) (ok' : Ok ts' s') (h : Sm d s s') (hi : (tiersS ts ts.length s []).2.i < n) :
    (tiersS ts ts.length s []).1 = (tiersS ts' ts'.length s' []).1 ∧ Sm d (tiersS ts ts.length s []).2 (tiersS ts' ts'.length s' []).2 := by
  rw [tiers_fuel ts ts.length (ts.length + ts'.length) s [] ok (by omega) (by omega)] at hi ⊢
  rw [tiers_fuel ts' ts'.length (ts.length + ts'.length) s' [] ok' (by omega) (by omega)]
  exact Sm.tiers A _ _ _ _ h hi
theorem Sm.adjsF (A : Al n d ts ts') (ok : Ok ts s) (ok' : Ok ts' s') (h : Sm d s s') (hi : (adjsS ts ts.length s []).2.i < n) :
    (adjsS ts ts.length s []).1 = (adjsS ts' ts'.length s' []).1 ∧ Sm d (adjsS ts ts.length s []).2 (adjsS ts' ts'.length s' []).2 := by
  rw [adjs_fuel ts ts.length (ts.length + ts'.length) s [] ok (by omega) (by omega)] at hi ⊢
  rw [adjs_fuel ts' ts'.length (ts.length + ts'.length) s' [] ok' (by omega) (by omega)]
  exact Sm.adjs A _ _ _ _ h hi
theorem nM_of {a a' u u' : List UInt8} {x x' : Int} (e1 : a = a') (e2 : u = u') (e3 : x = x') {l c l' c' : Int} : nM ⟨⟨a.toArray⟩, ⟨u.toArray⟩, x, l, c⟩ = nM ⟨⟨a'.toArray⟩, ⟨u'.toArray⟩, x', l', c'⟩ := by subst e1 e2 e3; rfl
theorem nF_of {x x' : Int} {w w' : Win} (e1 : x = x') (e2 : w = w') {l c l' c' : Int} : nF ⟨x, w, l, c⟩ = nF ⟨x', w', l', c'⟩ := by subst e1 e2; rfl
theorem nC_of {m m' : List UInt8} {w w' : Win} {a a' b b' k k' r r' x x' : Int} {t t' : List Tier} {j j' : List Adj} (e1 : m = m') (e2 : w = w') (e3 : a = a') (e4 : b = b') (e5 : k = k') (e6 : t = t') (e7 : r = r') (e8 : x = x') (e9 : j = j') {l c l' c' : Int} :
    nC ⟨⟨m.toArray⟩, w, a, b, k, t ++ [⟨0, r⟩], x, j, l, c⟩ = nC ⟨⟨m'.toArray⟩, w', a', b', k', t' ++ [⟨0, r'⟩], x', j', l', c'⟩ := by subst e1 e2 e3 e4 e5 e6 e7 e8 e9; rfl
theorem Sm.meterS (A : Al n d ts ts') (ok : Ok ts s) (ok' : Ok ts' s') (h : Sm d s s') (hi : (P.numS ts (P.wnt ts (P.tkn ts (P.wnt ts (P.tkn ts s 1).2 wUnit) 1).2 wMax) 0 2000).2.i < n) (l c l' c' : Int) : nM (P.meterS ts s l c).1 = nM (P.meterS ts' s' l' c').1 ∧ Sm d (P.meterS ts s l c).2 (P.meterS ts' s' l' c').2 := by
  have b5 : (P.numS ts (P.wnt ts (P.tkn ts (P.wnt ts (P.tkn ts s 1).2 wUnit) 1).2 wMax) 0 2000).2.i < n := hi
  have b4 : (P.wnt ts (P.tkn ts (P.wnt ts (P.tkn ts s 1).2 wUnit) 1).2 wMax).i < n := Nat.lt_of_le_of_lt (numS_le ts (P.wnt ts (P.tkn ts (P.wnt ts (P.tkn ts s 1).2 wUnit) 1).2 wMax) 0 2000) b5
  have b3 : (P.tkn ts (P.wnt ts (P.tkn ts s 1).2 wUnit) 1).2.i < n := Nat.lt_of_le_of_lt (wnt_le ts (P.tkn ts (P.wnt ts (P.tkn ts s 1).2 wUnit) 1).2 wMax) b4
  have b2 : (P.wnt ts (P.tkn ts s 1).2 wUnit).i < n := Nat.lt_of_le_of_lt (tkn_le ts (P.wnt ts (P.tkn ts s 1).2 wUnit) 1) b3
  have b1 : (P.tkn ts s 1).2.i < n := Nat.lt_of_le_of_lt (wnt_le ts (P.tkn ts s 1).2 wUnit) b2
  have b0 : s.i < n := Nat.lt_of_le_of_lt (tkn_le ts s 1) b1
  have o0 := ok
  have q0 := ok'
  have o1 := o0.tkn (k := 1) (by decide)
  have q1 := q0.tkn (k := 1) (by decide)
  have a1 := Sm.tkn A (h) b0 1
  have o2 := o1.wnt wUnit
  have q2 := q1.wnt wUnit
  have a2 := Sm.wnt A (a1.2) b1 wUnit
  have o3 := o2.tkn (k := 1) (by decide)
  have q3 := q2.tkn (k := 1) (by decide)
  have a3 := Sm.tkn A (a2) b2 1
  have o4 := o3.wnt wMax
  have q4 := q3.wnt wMax
  have a4 := Sm.wnt A (a3.2) b3 wMax
  have o5 := o4.numS 0 2000
  have q5 := q4.numS 0 2000
  have a5 := Sm.numS A (a4) b4 0 2000
  exact ⟨nM_of a1.1 a3.1 a5.1, Sm.wnt A (a5.2) b5 sSemi⟩
theorem Sm.feeS (A : Al n d ts ts') (ok : Ok ts s) (ok' : Ok ts' s') (h : Sm d s s') (hi : (P.winS ts (P.numS ts s 0 1000000000000).2).2.i < n) (l c l' c' : Int) : nF (P.feeS ts s l c).1 = nF (P.feeS ts' s' l' c').1 ∧ Sm d (P.feeS ts s l c).2 (P.feeS ts' s' l' c').2 := by
  have b2 : (P.winS ts (P.numS ts s 0 1000000000000).2).2.i < n := hi
  have b1 : (P.numS ts s 0 1000000000000).2.i < n := Nat.lt_of_le_of_lt (winS_le ts (P.numS ts s 0 1000000000000).2) b2
  have b0 : s.i < n := Nat.lt_of_le_of_lt (numS_le ts s 0 1000000000000) b1
  have o0 := ok
  have q0 := ok'
  have o1 := o0.numS 0 1000000000000
  have q1 := q0.numS 0 1000000000000
  have a1 := Sm.numS A (h) b0 0 1000000000000
  have o2 := o1.winS
  have q2 := q1.winS
  have a2 := Sm.winS A (a1.2) b2
  exact ⟨nF_of a1.1 a2.1, Sm.wnt A (a2.2) b2 sSemi⟩
theorem Sm.chargeS (A : Al n d ts ts') (ok : Ok ts s) (ok' : Ok ts' s') (h : Sm d s s') (hi : (P.adjsS ts ts.length (P.wnt ts (P.modeS ts (P.wnt ts (P.wnt ts (P.wnt ts (P.numS ts (P.wnt ts (P.wnt ts (P.tiersS ts ts.length (P.wnt ts (P.kindS ts (P.optS ts (P.optS ts (P.wnt ts (P.winS ts (P.tkn ts s 1).2).2 sOpen) wAllowance 0).2 wBlock 1).2).2 sOpen) []).2 wRest) wRate) 6 1000000000000).2 sSemi) sShut) wRound)).2 sSemi) []).2.i < n) (l c l' c' : Int) : nC (P.chargeS ts s l c).1 = nC (P.chargeS ts' s' l' c').1 ∧ Sm d (P.chargeS ts s l c).2 (P.chargeS ts' s' l' c').2 := by
  have b17 : (P.adjsS ts ts.length (P.wnt ts (P.modeS ts (P.wnt ts (P.wnt ts (P.wnt ts (P.numS ts (P.wnt ts (P.wnt ts (P.tiersS ts ts.length (P.wnt ts (P.kindS ts (P.optS ts (P.optS ts (P.wnt ts (P.winS ts (P.tkn ts s 1).2).2 sOpen) wAllowance 0).2 wBlock 1).2).2 sOpen) []).2 wRest) wRate) 6 1000000000000).2 sSemi) sShut) wRound)).2 sSemi) []).2.i < n := hi
  have b16 : (P.wnt ts (P.modeS ts (P.wnt ts (P.wnt ts (P.wnt ts (P.numS ts (P.wnt ts (P.wnt ts (P.tiersS ts ts.length (P.wnt ts (P.kindS ts (P.optS ts (P.optS ts (P.wnt ts (P.winS ts (P.tkn ts s 1).2).2 sOpen) wAllowance 0).2 wBlock 1).2).2 sOpen) []).2 wRest) wRate) 6 1000000000000).2 sSemi) sShut) wRound)).2 sSemi).i < n := Nat.lt_of_le_of_lt (adjsS_le ts ts.length (P.wnt ts (P.modeS ts (P.wnt ts (P.wnt ts (P.wnt ts (P.numS ts (P.wnt ts (P.wnt ts (P.tiersS ts ts.length (P.wnt ts (P.kindS ts (P.optS ts (P.optS ts (P.wnt ts (P.winS ts (P.tkn ts s 1).2).2 sOpen) wAllowance 0).2 wBlock 1).2).2 sOpen) []).2 wRest) wRate) 6 1000000000000).2 sSemi) sShut) wRound)).2 sSemi) []) b17
  have b15 : (P.modeS ts (P.wnt ts (P.wnt ts (P.wnt ts (P.numS ts (P.wnt ts (P.wnt ts (P.tiersS ts ts.length (P.wnt ts (P.kindS ts (P.optS ts (P.optS ts (P.wnt ts (P.winS ts (P.tkn ts s 1).2).2 sOpen) wAllowance 0).2 wBlock 1).2).2 sOpen) []).2 wRest) wRate) 6 1000000000000).2 sSemi) sShut) wRound)).2.i < n := Nat.lt_of_le_of_lt (wnt_le ts (P.modeS ts (P.wnt ts (P.wnt ts (P.wnt ts (P.numS ts (P.wnt ts (P.wnt ts (P.tiersS ts ts.length (P.wnt ts (P.kindS ts (P.optS ts (P.optS ts (P.wnt ts (P.winS ts (P.tkn ts s 1).2).2 sOpen) wAllowance 0).2 wBlock 1).2).2 sOpen) []).2 wRest) wRate) 6 1000000000000).2 sSemi) sShut) wRound)).2 sSemi) b16
  have b14 : (P.wnt ts (P.wnt ts (P.wnt ts (P.numS ts (P.wnt ts (P.wnt ts (P.tiersS ts ts.length (P.wnt ts (P.kindS ts (P.optS ts (P.optS ts (P.wnt ts (P.winS ts (P.tkn ts s 1).2).2 sOpen) wAllowance 0).2 wBlock 1).2).2 sOpen) []).2 wRest) wRate) 6 1000000000000).2 sSemi) sShut) wRound).i < n := Nat.lt_of_le_of_lt (modeS_le ts (P.wnt ts (P.wnt ts (P.wnt ts (P.numS ts (P.wnt ts (P.wnt ts (P.tiersS ts ts.length (P.wnt ts (P.kindS ts (P.optS ts (P.optS ts (P.wnt ts (P.winS ts (P.tkn ts s 1).2).2 sOpen) wAllowance 0).2 wBlock 1).2).2 sOpen) []).2 wRest) wRate) 6 1000000000000).2 sSemi) sShut) wRound)) b15
  have b13 : (P.wnt ts (P.wnt ts (P.numS ts (P.wnt ts (P.wnt ts (P.tiersS ts ts.length (P.wnt ts (P.kindS ts (P.optS ts (P.optS ts (P.wnt ts (P.winS ts (P.tkn ts s 1).2).2 sOpen) wAllowance 0).2 wBlock 1).2).2 sOpen) []).2 wRest) wRate) 6 1000000000000).2 sSemi) sShut).i < n := Nat.lt_of_le_of_lt (wnt_le ts (P.wnt ts (P.wnt ts (P.numS ts (P.wnt ts (P.wnt ts (P.tiersS ts ts.length (P.wnt ts (P.kindS ts (P.optS ts (P.optS ts (P.wnt ts (P.winS ts (P.tkn ts s 1).2).2 sOpen) wAllowance 0).2 wBlock 1).2).2 sOpen) []).2 wRest) wRate) 6 1000000000000).2 sSemi) sShut) wRound) b14
  have b12 : (P.wnt ts (P.numS ts (P.wnt ts (P.wnt ts (P.tiersS ts ts.length (P.wnt ts (P.kindS ts (P.optS ts (P.optS ts (P.wnt ts (P.winS ts (P.tkn ts s 1).2).2 sOpen) wAllowance 0).2 wBlock 1).2).2 sOpen) []).2 wRest) wRate) 6 1000000000000).2 sSemi).i < n := Nat.lt_of_le_of_lt (wnt_le ts (P.wnt ts (P.numS ts (P.wnt ts (P.wnt ts (P.tiersS ts ts.length (P.wnt ts (P.kindS ts (P.optS ts (P.optS ts (P.wnt ts (P.winS ts (P.tkn ts s 1).2).2 sOpen) wAllowance 0).2 wBlock 1).2).2 sOpen) []).2 wRest) wRate) 6 1000000000000).2 sSemi) sShut) b13
  have b11 : (P.numS ts (P.wnt ts (P.wnt ts (P.tiersS ts ts.length (P.wnt ts (P.kindS ts (P.optS ts (P.optS ts (P.wnt ts (P.winS ts (P.tkn ts s 1).2).2 sOpen) wAllowance 0).2 wBlock 1).2).2 sOpen) []).2 wRest) wRate) 6 1000000000000).2.i < n := Nat.lt_of_le_of_lt (wnt_le ts (P.numS ts (P.wnt ts (P.wnt ts (P.tiersS ts ts.length (P.wnt ts (P.kindS ts (P.optS ts (P.optS ts (P.wnt ts (P.winS ts (P.tkn ts s 1).2).2 sOpen) wAllowance 0).2 wBlock 1).2).2 sOpen) []).2 wRest) wRate) 6 1000000000000).2 sSemi) b12
  have b10 : (P.wnt ts (P.wnt ts (P.tiersS ts ts.length (P.wnt ts (P.kindS ts (P.optS ts (P.optS ts (P.wnt ts (P.winS ts (P.tkn ts s 1).2).2 sOpen) wAllowance 0).2 wBlock 1).2).2 sOpen) []).2 wRest) wRate).i < n := Nat.lt_of_le_of_lt (numS_le ts (P.wnt ts (P.wnt ts (P.tiersS ts ts.length (P.wnt ts (P.kindS ts (P.optS ts (P.optS ts (P.wnt ts (P.winS ts (P.tkn ts s 1).2).2 sOpen) wAllowance 0).2 wBlock 1).2).2 sOpen) []).2 wRest) wRate) 6 1000000000000) b11
  have b9 : (P.wnt ts (P.tiersS ts ts.length (P.wnt ts (P.kindS ts (P.optS ts (P.optS ts (P.wnt ts (P.winS ts (P.tkn ts s 1).2).2 sOpen) wAllowance 0).2 wBlock 1).2).2 sOpen) []).2 wRest).i < n := Nat.lt_of_le_of_lt (wnt_le ts (P.wnt ts (P.tiersS ts ts.length (P.wnt ts (P.kindS ts (P.optS ts (P.optS ts (P.wnt ts (P.winS ts (P.tkn ts s 1).2).2 sOpen) wAllowance 0).2 wBlock 1).2).2 sOpen) []).2 wRest) wRate) b10
  have b8 : (P.tiersS ts ts.length (P.wnt ts (P.kindS ts (P.optS ts (P.optS ts (P.wnt ts (P.winS ts (P.tkn ts s 1).2).2 sOpen) wAllowance 0).2 wBlock 1).2).2 sOpen) []).2.i < n := Nat.lt_of_le_of_lt (wnt_le ts (P.tiersS ts ts.length (P.wnt ts (P.kindS ts (P.optS ts (P.optS ts (P.wnt ts (P.winS ts (P.tkn ts s 1).2).2 sOpen) wAllowance 0).2 wBlock 1).2).2 sOpen) []).2 wRest) b9
  have b7 : (P.wnt ts (P.kindS ts (P.optS ts (P.optS ts (P.wnt ts (P.winS ts (P.tkn ts s 1).2).2 sOpen) wAllowance 0).2 wBlock 1).2).2 sOpen).i < n := Nat.lt_of_le_of_lt (tiersS_le ts ts.length (P.wnt ts (P.kindS ts (P.optS ts (P.optS ts (P.wnt ts (P.winS ts (P.tkn ts s 1).2).2 sOpen) wAllowance 0).2 wBlock 1).2).2 sOpen) []) b8
  have b6 : (P.kindS ts (P.optS ts (P.optS ts (P.wnt ts (P.winS ts (P.tkn ts s 1).2).2 sOpen) wAllowance 0).2 wBlock 1).2).2.i < n := Nat.lt_of_le_of_lt (wnt_le ts (P.kindS ts (P.optS ts (P.optS ts (P.wnt ts (P.winS ts (P.tkn ts s 1).2).2 sOpen) wAllowance 0).2 wBlock 1).2).2 sOpen) b7
  have b5 : (P.optS ts (P.optS ts (P.wnt ts (P.winS ts (P.tkn ts s 1).2).2 sOpen) wAllowance 0).2 wBlock 1).2.i < n := Nat.lt_of_le_of_lt (kindS_le ts (P.optS ts (P.optS ts (P.wnt ts (P.winS ts (P.tkn ts s 1).2).2 sOpen) wAllowance 0).2 wBlock 1).2) b6
  have b4 : (P.optS ts (P.wnt ts (P.winS ts (P.tkn ts s 1).2).2 sOpen) wAllowance 0).2.i < n := Nat.lt_of_le_of_lt (optS_le ts (P.optS ts (P.wnt ts (P.winS ts (P.tkn ts s 1).2).2 sOpen) wAllowance 0).2 wBlock 1) b5
  have b3 : (P.wnt ts (P.winS ts (P.tkn ts s 1).2).2 sOpen).i < n := Nat.lt_of_le_of_lt (optS_le ts (P.wnt ts (P.winS ts (P.tkn ts s 1).2).2 sOpen) wAllowance 0) b4
  have b2 : (P.winS ts (P.tkn ts s 1).2).2.i < n := Nat.lt_of_le_of_lt (wnt_le ts (P.winS ts (P.tkn ts s 1).2).2 sOpen) b3
  have b1 : (P.tkn ts s 1).2.i < n := Nat.lt_of_le_of_lt (winS_le ts (P.tkn ts s 1).2) b2
  have b0 : s.i < n := Nat.lt_of_le_of_lt (tkn_le ts s 1) b1
  have o0 := ok
  have q0 := ok'
  have o1 := o0.tkn (k := 1) (by decide)
  have q1 := q0.tkn (k := 1) (by decide)
  have a1 := Sm.tkn A (h) b0 1
  have o2 := o1.winS
  have q2 := q1.winS
  have a2 := Sm.winS A (a1.2) b2
  have o3 := o2.wnt sOpen
  have q3 := q2.wnt sOpen
  have a3 := Sm.wnt A (a2.2) b2 sOpen
  have o4 := o3.optS wAllowance 0
  have q4 := q3.optS wAllowance 0
  have a4 := Sm.optS A (a3) b4
  have o5 := o4.optS wBlock 1
  have q5 := q4.optS wBlock 1
  have a5 := Sm.optS A (a4.2) b5
  have o6 := o5.kindS
  have q6 := q5.kindS
  have a6 := Sm.kindS A (a5.2) b6
  have o7 := o6.wnt sOpen
  have q7 := q6.wnt sOpen
  have a7 := Sm.wnt A (a6.2) b6 sOpen
  have o8 := Ok.tiersS ts.length (P.wnt ts (P.kindS ts (P.optS ts (P.optS ts (P.wnt ts (P.winS ts (P.tkn ts s 1).2).2 sOpen) wAllowance 0).2 wBlock 1).2).2 sOpen) [] o7
  have q8 := Ok.tiersS ts'.length (P.wnt ts' (P.kindS ts' (P.optS ts' (P.optS ts' (P.wnt ts' (P.winS ts' (P.tkn ts' s' 1).2).2 sOpen) wAllowance 0).2 wBlock 1).2).2 sOpen) [] q7
  have a8 := Sm.tiersF A o7 q7 a7 b8
  have o9 := o8.wnt wRest
  have q9 := q8.wnt wRest
  have a9 := Sm.wnt A (a8.2) b8 wRest
  have o10 := o9.wnt wRate
  have q10 := q9.wnt wRate
  have a10 := Sm.wnt A (a9) b9 wRate
  have o11 := o10.numS 6 1000000000000
  have q11 := q10.numS 6 1000000000000
  have a11 := Sm.numS A (a10) b10 6 1000000000000
  have o12 := o11.wnt sSemi
  have q12 := q11.wnt sSemi
  have a12 := Sm.wnt A (a11.2) b11 sSemi
  have o13 := o12.wnt sShut
  have q13 := q12.wnt sShut
  have a13 := Sm.wnt A (a12) b12 sShut
  have o14 := o13.wnt wRound
  have q14 := q13.wnt wRound
  have a14 := Sm.wnt A (a13) b13 wRound
  have o15 := o14.modeS
  have q15 := q14.modeS
  have a15 := Sm.modeS A (a14) b15
  have o16 := o15.wnt sSemi
  have q16 := q15.wnt sSemi
  have a16 := Sm.wnt A (a15.2) b15 sSemi
  have o17 := Ok.adjsS ts.length (P.wnt ts (P.modeS ts (P.wnt ts (P.wnt ts (P.wnt ts (P.numS ts (P.wnt ts (P.wnt ts (P.tiersS ts ts.length (P.wnt ts (P.kindS ts (P.optS ts (P.optS ts (P.wnt ts (P.winS ts (P.tkn ts s 1).2).2 sOpen) wAllowance 0).2 wBlock 1).2).2 sOpen) []).2 wRest) wRate) 6 1000000000000).2 sSemi) sShut) wRound)).2 sSemi) [] o16
  have q17 := Ok.adjsS ts'.length (P.wnt ts' (P.modeS ts' (P.wnt ts' (P.wnt ts' (P.wnt ts' (P.numS ts' (P.wnt ts' (P.wnt ts' (P.tiersS ts' ts'.length (P.wnt ts' (P.kindS ts' (P.optS ts' (P.optS ts' (P.wnt ts' (P.winS ts' (P.tkn ts' s' 1).2).2 sOpen) wAllowance 0).2 wBlock 1).2).2 sOpen) []).2 wRest) wRate) 6 1000000000000).2 sSemi) sShut) wRound)).2 sSemi) [] q16
  have a17 := Sm.adjsF A o16 q16 a16 b17
  exact ⟨nC_of a1.1 a2.1 a4.1 a5.1 a6.1 a8.1 a11.1 a15.1 a17.1, Sm.wnt A (a17.2) b17 sShut⟩
end
/-- The second plan holds what a third and the first hold, but for places. -/
structure Rl (p0 p q : Plan) : Prop where
  hd : q.name = p0.name ∧ q.cur = p0.cur ∧ q.a = p0.a ∧ q.b = p0.b
  meters : q.meters.map nM = p0.meters.map nM ++ p.meters.map nM
  fees : q.fees.map nF = p0.fees.map nF ++ p.fees.map nF
  charges : q.charges.map nC = p0.charges.map nC ++ p.charges.map nC
theorem wnt_start {n : Nat} {ts : List Tok} {x : St} {l : List UInt8} (h : (wnt ts x l).i < n ∨ ((wnt ts x l).err = 0 ∧ (wnt ts x l).i ≤ n)) : x.i < n := by
  rcases h with h | ⟨h1, h2⟩
  · exact Nat.lt_of_le_of_lt (wnt_le ts x l) h
  · unfold wnt at h1 h2
    by_cases c : onW ts x l = true
    · rw [if_pos c] at h2
      have : x.i + 1 ≤ n := h2
      omega
    · rw [if_neg c, wrgErr] at h1
      split at h1
      · cases h1
      · rename_i k; exact absurd h1 k
theorem Rl.item {n d : Nat} {ts ts' : List Tok} {s s' : St} {p0 p q : Plan} (A : Al n d ts ts') (ok : Ok ts s) (ok' : Ok ts' s') (h : Sm d s s') (g : Rl p0 p q) (hs : s.i < n) (hi : (itemS ts s p).2.i < n ∨ ((itemS ts s p).2.err = 0 ∧ (itemS ts s p).2.i ≤ n)) :
    Rl p0 (itemS ts s p).1 (itemS ts' s' q).1 ∧ Sm d (itemS ts s p).2 (itemS ts' s' q).2 := by
  have a := Sm.oneS A h hs itemWords
  have k := ok.oneS itemWords
  have k' := ok'.oneS itemWords
  obtain ⟨l', hl'⟩ : ∃ x, x = (tk ts' s').ln := ⟨_, rfl⟩
  obtain ⟨c', hc'⟩ : ∃ x, x = (tk ts' s').cl := ⟨_, rfl⟩
  obtain ⟨l, hl⟩ : ∃ x, x = (tk ts s).ln := ⟨_, rfl⟩
  obtain ⟨c, hc⟩ : ∃ x, x = (tk ts s).cl := ⟨_, rfl⟩
  unfold itemS at hi ⊢
  simp only at hi ⊢
  rw [← a.1, ← hl', ← hc', ← hl, ← hc]
  rw [← hl, ← hc] at hi
  clear hl hc hl' hc'
  obtain ⟨r, hr⟩ : ∃ r, r = (oneS ts s itemWords).1 := ⟨_, rfl⟩
  obtain ⟨u, hu⟩ : ∃ u, u = (oneS ts s itemWords).2 := ⟨_, rfl⟩
  obtain ⟨u', hu'⟩ : ∃ u', u' = (oneS ts' s' itemWords).2 := ⟨_, rfl⟩
  rw [← hr, ← hu] at hi ⊢
  rw [← hu']
  have a2 := a.2
  rw [← hu, ← hu'] at a2
  rw [← hu] at k
  rw [← hu'] at k'
  clear a hr hu hu'
  by_cases e0 : r = 0
  · rw [if_pos e0] at hi ⊢
    rw [if_pos e0]
    have m := Sm.meterS A k k' a2 (wnt_start hi) l c l' c'
    refine ⟨⟨g.hd, ?_, g.fees, g.charges⟩, m.2⟩
    show (q.meters ++ [_]).map nM = _ ++ (p.meters ++ [_]).map nM
    rw [List.map_append, List.map_append, g.meters, List.map_singleton, List.map_singleton, m.1, List.append_assoc]
  · rw [if_neg e0] at hi ⊢
    rw [if_neg e0]
    by_cases e1 : r = 1
    · rw [if_pos e1] at hi ⊢
      rw [if_pos e1]
      have m := Sm.feeS A k k' a2 (wnt_start hi) l c l' c'
      refine ⟨⟨g.hd, g.meters, ?_, g.charges⟩, m.2⟩
      show (q.fees ++ [_]).map nF = _ ++ (p.fees ++ [_]).map nF
      rw [List.map_append, List.map_append, g.fees, List.map_singleton, List.map_singleton, m.1, List.append_assoc]
    · rw [if_neg e1] at hi ⊢
      rw [if_neg e1]
      by_cases e2 : r = 2
      · rw [if_pos e2] at hi ⊢
        rw [if_pos e2]
        have m := Sm.chargeS A k k' a2 (wnt_start hi) l c l' c'
        refine ⟨⟨g.hd, g.meters, g.fees, ?_⟩, m.2⟩
        show (q.charges ++ [_]).map nC = _ ++ (p.charges ++ [_]).map nC
        rw [List.map_append, List.map_append, g.charges, List.map_singleton, List.map_singleton, m.1, List.append_assoc]
      · rw [if_neg e2] at hi ⊢
        rw [if_neg e2]
        exact ⟨g, a2.wrg 4⟩
end Go.Proofs.YteelbdcgdkpioaaGreatDoor.P
/- Tokens with notes between them, lexed again: no program is named here. -/
namespace Go.Proofs.YteelbdcgdkpioaaGreatDoor.P
open Go.RowKit

/-- Letters that are one token. -/
structure Whole (t : List UInt8) : Prop where
  some : t ≠ []
  kind : kd t ≠ 0
  skip : skips (t.getD 0 0) = false
  row : (isLt (t.getD 0 0) = true ∧ t.all isLt = true) ∨ (isLt (t.getD 0 0) = false ∧ t.length = 1)
theorem run_take (p : UInt8 → Bool) (l : List UInt8) : (l.take (run p l)).all p = true := by
  induction l with
  | nil => rfl
  | cons c r ih =>
    unfold run
    by_cases h : p c = true
    · rw [if_pos h, List.take_succ_cons, List.all_cons, h, ih]
      rfl
    · rw [if_neg h]
      rfl
theorem run_whole {p : UInt8 → Bool} (l m : List UInt8) {c : UInt8} (h : l.all p = true) (hc : p c = false) : run p (l ++ c :: m) = l.length := by
  rw [run_over l m hc]
  exact run_eq _ _ _ (Nat.le_refl _) (fun j hj => by
    rw [List.all_eq_true] at h
    refine h _ ?_
    rw [List.getD_eq_getElem?_getD, List.getElem?_eq_getElem hj]
    exact List.getElem_mem hj) (fun k => absurd k (Nat.lt_irrefl _))
theorem whole_piece {c : UInt8} {r : List UInt8} (hs : skips c = false) (hk : kd ((c :: r).take (piece (c :: r))) ≠ 0) : Whole ((c :: r).take (piece (c :: r))) := by
  have hp := piece_pos c r
  obtain ⟨n, hn⟩ : ∃ n, piece (c :: r) = n + 1 := ⟨piece (c :: r) - 1, by omega⟩
  have hs' := hs
  unfold skips at hs'
  rw [Bool.or_eq_false_iff] at hs'
  have e : (c :: r).take (piece (c :: r)) = c :: r.take n := by rw [hn, List.take_succ_cons]
  refine ⟨by rw [e]; simp, hk, by rw [e]; exact hs, ?_⟩
  rw [e]
  rw [piece_cons, if_neg (by rw [hs'.1]; decide), if_neg (by rw [hs'.2]; decide)] at hn
  by_cases hl : isLt c = true
  · rw [if_pos hl] at hn
    obtain rfl : n = run isLt r := by omega
    refine .inl ⟨hl, ?_⟩
    rw [List.all_cons, run_take, hl]
    rfl
  · rw [if_neg hl] at hn
    obtain rfl : n = 0 := by omega
    exact .inr ⟨by simpa using hl, rfl⟩
/-- All tokens but the last are such. -/
theorem lex_whole (n : Nat) (l : List UInt8) (ln cl : Nat) (hn : l.length ≤ n) (h : (lex l ln cl).2 = none) :
    ∃ init u v, (lex l ln cl).1 = init ++ [⟨0, [], u, v⟩] ∧ (∀ t ∈ init, Whole t.t ∧ kd t.t = t.k) ∧ (init.map fun t => t.t.length).sum ≤ l.length := by
  induction n generalizing l ln cl with
  | zero =>
    obtain rfl : l = [] := List.eq_nil_of_length_eq_zero (by omega)
    exact ⟨[], ln, cl, rfl, (fun t ht => by cases ht), Nat.zero_le _⟩
  | succ n ih =>
    cases l with
    | nil => exact ⟨[], ln, cl, rfl, (fun t ht => by cases ht), Nat.zero_le _⟩
    | cons c r =>
      have hp := piece_pos c r
      have hl := piece_le (c :: r)
      have hd : ((c :: r).drop (piece (c :: r))).length ≤ n := by rw [List.length_drop]; simp only [List.length_cons] at hn ⊢; omega
      have hld : ((c :: r).drop (piece (c :: r))).length = (c :: r).length - piece (c :: r) := List.length_drop
      cases hs : skips c
      · by_cases hk : kd ((c :: r).take (piece (c :: r))) = 0
        · rw [lex_bad hs hk] at h; cases h
        · rw [lex_tok hs hk] at h ⊢
          obtain ⟨init, u, v, g1, g2, g3⟩ := ih _ _ _ hd h
          refine ⟨_ :: init, u, v, by rw [g1]; rfl, fun t ht => ?_, ?_⟩
          · rcases List.mem_cons.1 ht with rfl | ht
            · exact ⟨whole_piece hs hk, rfl⟩
            · exact g2 t ht
          · rw [List.map_cons, List.sum_cons]
            simp only [List.length_take]
            omega
      · rw [lex_skip hs] at h ⊢
        obtain ⟨init, u, v, g1, g2, g3⟩ := ih _ _ _ hd h
        exact ⟨init, u, v, g1, g2, by omega⟩
/-- What stands behind a token. -/
def behind (note : List UInt8) (i : Nat) : List UInt8 := if i % 3 = 0 then 32 :: 9 :: 35 :: (note ++ [10]) else [32]
/-- Tokens, with blanks and notes between. -/
def noted (note : List UInt8) : Nat → List (List UInt8) → List UInt8
  | _, [] => []
  | i, t :: r => t ++ (behind note i ++ noted note (i + 1) r)
theorem lex_behind (note : List UInt8) (hn : ∀ c ∈ note, c ≠ 10) (i : Nat) (m : List UInt8) (ln cl : Nat) : ∃ ln' cl', lex (behind note i ++ m) ln cl = lex m ln' cl' := by
  unfold behind
  split
  · rw [List.cons_append, lex_skip (by decide)]
    show ∃ ln' cl', lex (9 :: 35 :: (note ++ [10]) ++ m) _ _ = _
    rw [List.cons_append, lex_skip (by decide)]
    show ∃ ln' cl', lex (35 :: (note ++ [10]) ++ m) _ _ = _
    have e : 35 :: (note ++ [10]) ++ m = 35 :: (note ++ 10 :: m) := by simp
    have hp : piece (35 :: (note ++ 10 :: m)) = note.length + 1 := by
      rw [piece_cons, if_pos (by decide), run_whole (p := fun x => !(x == 10)) note m (by rw [List.all_eq_true]; intro c hc; simpa using hn c hc) (by decide)]
    have hd : (35 :: (note ++ 10 :: m)).drop (note.length + 1) = 10 :: m := by rw [List.drop_succ_cons, List.drop_left]
    rw [e, lex_skip (by decide), hp, hd, lex_skip (by decide)]
    exact ⟨_, _, rfl⟩
  · rw [List.cons_append, lex_skip (by decide)]
    exact ⟨_, _, rfl⟩
theorem behind_head (note : List UInt8) (i : Nat) (m : List UInt8) : ∃ x, behind note i ++ m = 32 :: x := by unfold behind; split <;> exact ⟨_, rfl⟩
theorem lex_one {t : List UInt8} (h : Whole t) (x : List UInt8) (ln cl : Nat) : lex (t ++ 32 :: x) ln cl = (⟨kd t, t, ln, cl⟩ :: (lex (32 :: x) ln (cl + t.length)).1, (lex (32 :: x) ln (cl + t.length)).2) := by
  obtain ⟨h1, h2, h3, h4⟩ := h
  cases t with
  | nil => exact absurd rfl h1
  | cons c r =>
    have h3' : skips c = false := h3
    have hs := h3'
    unfold skips at hs
    rw [Bool.or_eq_false_iff] at hs
    have hp : piece ((c :: r) ++ 32 :: x) = (c :: r).length := by
      rw [List.cons_append, piece_cons, if_neg (by rw [hs.1]; decide), if_neg (by rw [hs.2]; decide)]
      rcases h4 with ⟨a, b⟩ | ⟨a, b⟩
      · rw [if_pos (by exact a), run_whole r x (by rw [List.all_cons, Bool.and_eq_true] at b; exact b.2) (by decide)]
        rfl
      · rw [if_neg (by rw [show isLt c = false from a]; decide)]
        exact b.symm
    have ht : ((c :: r) ++ 32 :: x).take (c :: r).length = c :: r := List.take_left
    have hd : ((c :: r) ++ 32 :: x).drop (c :: r).length = 32 :: x := List.drop_left
    have := lex_tok (c := c) (r := r ++ 32 :: x) h3' (by rw [← List.cons_append, hp, ht]; exact h2) ln cl
    rw [← List.cons_append, hp, ht, hd] at this
    exact this
theorem lex_noted (note : List UInt8) (hn : ∀ c ∈ note, c ≠ 10) (init : List Tok) (h : ∀ t ∈ init, Whole t.t ∧ kd t.t = t.k) (i ln cl : Nat) :
    ∃ ts, lex (noted note i (init.map (fun t => t.t) ++ [[]])) ln cl = (ts, none) ∧ ts.map (fun t => (t.k, t.t)) = init.map (fun t => (t.k, t.t)) ++ [(0, [])] := by
  induction init generalizing i ln cl with
  | nil =>
    show ∃ ts, lex ([] ++ (behind note i ++ [])) ln cl = _ ∧ _
    rw [List.nil_append]
    obtain ⟨a, b, e⟩ := lex_behind note hn i [] ln cl
    rw [e]
    exact ⟨_, rfl, rfl⟩
  | cons t r ih =>
    show ∃ ts, lex (t.t ++ (behind note i ++ noted note (i + 1) (r.map (fun t => t.t) ++ [[]]))) ln cl = _ ∧ _
    obtain ⟨x, hx⟩ := behind_head note i (noted note (i + 1) (r.map (fun t => t.t) ++ [[]]))
    have ht := h t (List.mem_cons_self ..)
    rw [hx, lex_one ht.1, ← hx]
    obtain ⟨a, b, e⟩ := lex_behind note hn i (noted note (i + 1) (r.map (fun t => t.t) ++ [[]])) ln (cl + t.t.length)
    obtain ⟨ts, g1, g2⟩ := ih (fun y hy => h y (List.mem_cons_of_mem _ hy)) (i + 1) a b
    rw [e, g1]
    exact ⟨_, rfl, by simp only [List.map_cons, List.cons_append, g2, ht.2]⟩
/-- What Lex answers of tokens with notes between. -/
theorem lexed_notes (l note : List UInt8) (hn : ∀ c ∈ note, c ≠ 10) (h : (lexed l).2 = (0, 0, 0)) (hs : (noted note 0 ((lexed l).1.map fun t => t.t)).length ≤ 8192) :
    ∃ ts, lexed (noted note 0 ((lexed l).1.map fun t => t.t)) = (ts, 0, 0, 0) ∧ ts.map (fun t => (t.k, t.t)) = (lexed l).1.map (fun t => (t.k, t.t)) := by
  have hl : l.length ≤ 8192 := by
    rcases Nat.lt_or_ge 8192 l.length with k | k
    · rw [lexed_great k] at h; cases h
    · exact k
  cases ho : lex l 1 1 with
  | mk ys o =>
    cases o with
    | some p => rw [lexed_bad hl ho] at h; cases h
    | none =>
      have e := lexed_ok hl ho
      obtain ⟨init, u, v, g1, g2, _⟩ := lex_whole _ l 1 1 (Nat.le_refl _) (by rw [ho])
      rw [ho] at g1
      simp only at g1
      rw [e] at hs ⊢
      simp only at hs ⊢
      rw [g1, List.map_append] at hs ⊢
      obtain ⟨ts, k1, k2⟩ := lex_noted note hn init g2 0 1 1
      refine ⟨ts, lexed_ok hs k1, ?_⟩
      rw [k2, List.map_append]
      rfl
end Go.Proofs.YteelbdcgdkpioaaGreatDoor.P
/- Kinds of letters, asked in the order of the document's table: no program is named here. -/
namespace Go.Proofs.YteelbdcgdkpioaaGreatDoor.P
open Go.RowKit

/-- A letter that may stand in a name. -/
def isNm (b : UInt8) : Bool := decide (b.toNat = 95 ∨ (48 ≤ b.toNat ∧ b.toNat ≤ 57) ∨ (97 ≤ b.toNat ∧ b.toNat ≤ 122) ∨ (65 ≤ b.toNat ∧ b.toNat ≤ 90))
def nmI (x : Int) : Bool := decide (x = 95 ∨ (48 ≤ x ∧ x ≤ 57) ∨ (97 ≤ x ∧ x ≤ 122) ∨ (65 ≤ x ∧ x ≤ 90))
theorem nmI_of (b : UInt8) : nmI ((b.toNat : Nat) : Int) = isNm b := by unfold nmI isNm; rw [decide_eq_decide]; omega
theorem byte_is (b : UInt8) (n : UInt8) : (b == n) = decide (b.toNat = n.toNat) := by
  rw [Bool.eq_iff_iff, beq_iff_eq, decide_eq_true_eq, UInt8.toNat_inj]
theorem isLt_nm (b : UInt8) : isLt b = (isNm b || (b == 46 || b == 45)) := by
  rw [byte_is, byte_is]
  unfold isLt isNm
  rw [Bool.eq_iff_iff]
  simp only [Bool.or_eq_true, decide_eq_true_eq, show (46 : UInt8).toNat = 46 from rfl, show (45 : UInt8).toNat = 45 from rfl]
  omega
theorem isLt_dg {b : UInt8} (h : isDg b = true) : isLt b = true := by
  unfold isDg at h
  unfold isLt
  rw [decide_eq_true_eq] at h ⊢
  omega
theorem all_mono {p q : UInt8 → Bool} {l : List UInt8} (h : ∀ b, p b = true → q b = true) (a : l.all p = true) : l.all q = true := by
  rw [List.all_eq_true] at a ⊢
  exact fun b hb => h b (a b hb)
/-- Whether letters are of a name's form. -/
def nm (l : List UInt8) : Bool := (l.all isNm && !l.isEmpty) && !isDg (l.getD 0 0)
theorem words_lt : words.all (fun w => w.all isLt && !w.isEmpty) = true := by decide
theorem word_lt {l : List UInt8} (h : words.contains l = true) : l.all isLt = true ∧ l ≠ [] := by
  have := List.all_eq_true.1 words_lt l (List.contains_iff_mem.1 h)
  rw [Bool.and_eq_true] at this
  refine ⟨this.1, fun e => ?_⟩
  rw [e] at this
  cases this.2
theorem nm_lt {l : List UInt8} (h : nm l = true) : l.all isLt = true ∧ l ≠ [] := by
  unfold nm at h
  rw [Bool.and_eq_true, Bool.and_eq_true] at h
  refine ⟨all_mono (fun b hb => by rw [isLt_nm, hb]; rfl) h.1.1, fun e => ?_⟩
  rw [e] at h
  cases h.1.2
theorem fm_lt {l : List UInt8} (h : fm l ≠ 0) : l.all isLt = true ∧ l ≠ [] := by
  refine ⟨all_mono (fun b hb => ?_) (fm_all h), fun e => ?_⟩
  · unfold isDp at hb
    rw [Bool.or_eq_true] at hb
    rcases hb with h | h
    · exact isLt_dg h
    · rw [beq_iff_eq] at h; rw [h]; decide
  · rw [e] at h; exact h fm_empty
theorem reads_lt {l : List UInt8} (h : reads l = true) : l.all isLt = true ∧ l ≠ [] := by
  unfold reads formed at h
  simp only [Bool.and_eq_true, decide_eq_true_eq] at h
  obtain ⟨⟨⟨hl, h4, h7⟩, a, b, c⟩, _⟩ := h
  obtain ⟨x0, x1, x2, x3, x4, x5, x6, x7, x8, x9, rfl⟩ := ten hl
  have hd : ∀ b, isD b = true → isLt b = true := fun b hb => isLt_dg hb
  simp only [List.getD_cons_succ, List.getD_cons_zero] at h4 h7
  subst h4 h7
  simp only [List.take_succ_cons, List.take_zero, List.drop_succ_cons, List.drop_zero, List.all_cons, List.all_nil, Bool.and_true, Bool.and_eq_true] at a b c
  refine ⟨?_, by simp⟩
  simp only [List.all_cons, List.all_nil, Bool.and_true, Bool.and_eq_true]
  exact ⟨hd _ a.1, hd _ a.2.1, hd _ a.2.2.1, hd _ a.2.2.2, by decide, hd _ b.1, hd _ b.2, by decide, hd _ c.1, hd _ c.2⟩
theorem plain_nm {l : List UInt8} (h : l.all isLt = true) : plain l = l.all isNm := by
  induction l with
  | nil => rfl
  | cons b r ih =>
    rw [List.all_cons, Bool.and_eq_true] at h
    have i := ih h.2
    unfold plain at i ⊢
    rw [List.all_cons, List.all_cons, i]
    have := h.1
    rw [isLt_nm] at this
    have hn : isNm b = (!(b == 46) && !(b == 45)) := by
      cases h1 : (b == 46)
      · cases h2 : (b == 45)
        · rw [h1, h2] at this; simpa using this
        · rw [beq_iff_eq] at h2; subst h2; decide
      · rw [beq_iff_eq] at h1; subst h1; decide
    rw [hn]
/-- The kind, asked in the order of the table. -/
def kw (sg wd n : Bool) (f : Nat) (d : Bool) : Nat := if sg then 5 else if wd then 2 else if n then 1 else if f ≠ 0 then 3 else if d then 4 else 0
def sgn (l : List UInt8) : Bool := l == [123] || (l == [125] || l == [59])
theorem sgn_iff (l : List UInt8) : sgn l = true ↔ (l = [123] ∨ l = [125] ∨ l = [59]) := by unfold sgn; simp only [Bool.or_eq_true, beq_iff_eq]
theorem kd_kw (l : List UInt8) : kd l = kw (sgn l) (words.contains l) (nm l) (fm l) (reads l) := by
  unfold kd kw
  by_cases hs : sgn l = true
  · rw [if_pos ((sgn_iff l).1 hs), if_pos hs]
  · rw [if_neg (fun h => hs ((sgn_iff l).2 h)), if_neg hs]
    by_cases hb : l = [] ∨ l.all isLt = false
    · have no : ¬ (l.all isLt = true ∧ l ≠ []) := by
        rintro ⟨a, b⟩
        rcases hb with h | h
        · exact b h
        · rw [h] at a; cases a
      rw [if_pos hb, if_neg (fun h => no (word_lt h)), if_neg (fun h => no (nm_lt h)), if_neg (fun h => no (fm_lt h)), if_neg (fun h => no (reads_lt h))]
    · rw [if_neg hb]
      have ha : l.all isLt = true := by
        cases h : l.all isLt
        · exact absurd (.inr h) hb
        · rfl
      have hn : nm l = (plain l && !isDg (l.getD 0 0)) := by
        unfold nm
        rw [plain_nm ha]
        cases l with
        | nil => exact absurd (.inl rfl) hb
        | cons a r => simp
      rw [hn]
/-- Where the piece that begins at a place ends. -/
def ends (l : List UInt8) (i : Nat) : Nat := i + piece (l.drop i)
end Go.Proofs.YteelbdcgdkpioaaGreatDoor.P
/- What the letters of a text's tokens say of their kinds, and what a reader that has gone wrong sees: the end alone. Pure: no program is named here. -/
namespace Go.Proofs.YteelbdcgdkpioaaGreatDoor.P
open Go.RowKit Mm

/-- Each token is of the kind that its letters are; the end has none. -/
def Knd (ts : List Tok) : Prop := ∀ t ∈ ts, kd t.t = t.k ∧ (t.k = 0 → t.t = [])
theorem kd_nil : kd [] = 0 := by decide
theorem lx_knd (n : Nat) (l : List UInt8) (ln cl : Nat) : Knd (lx n l ln cl).1 := by
  induction n generalizing l ln cl with
  | zero => intro t ht; rw [List.mem_singleton.1 ht]; exact ⟨kd_nil, fun _ => rfl⟩
  | succ n ih =>
    cases l with
    | nil => intro t ht; rw [List.mem_singleton.1 ht]; exact ⟨kd_nil, fun _ => rfl⟩
    | cons c r =>
      unfold lx
      split
      · exact ih _ _ _
      · split
        · intro t ht; cases ht
        · rename_i hk
          intro t ht
          rcases List.mem_cons.1 ht with rfl | ht
          · exact ⟨rfl, fun e => absurd e hk⟩
          · exact ih _ _ _ t ht
theorem lexed_knd (l : List UInt8) : Knd (lexed l).1 := by
  unfold lexed
  split
  · intro t ht; cases ht
  · split
    · exact lx_knd _ _ _ _
    · intro t ht; cases ht
theorem words_head : words.all (fun w => !isDg (w.getD 0 0)) = true := by decide
theorem digit_head {l : List UInt8} (hd : isDg (l.getD 0 0) = true) : sgn l = false ∧ words.contains l = false ∧ nm l = false := by
  refine ⟨?_, ?_, ?_⟩
  · cases k : sgn l
    · rfl
    · rcases (sgn_iff l).1 k with rfl | rfl | rfl <;> exact absurd hd (by decide)
  · cases k : words.contains l
    · rfl
    · have := List.all_eq_true.1 words_head l (List.contains_iff_mem.1 k)
      rw [hd] at this
      cases this
  · unfold nm; rw [hd]; simp
theorem fm_kd {l : List UInt8} (h : fm l ≠ 0) : kd l = 3 := by
  have hd : isDg (l.getD 0 0) = true := by
    cases k : isDg (l.getD 0 0)
    · exact absurd (fm_first k) h
    · rfl
  obtain ⟨h1, h2, h3⟩ := digit_head hd
  rw [kd_kw, h1, h2, h3]
  unfold kw
  simp [h]
theorem reads_kd {l : List UInt8} (h : reads l = true) : kd l = 4 := by
  have h0 := h
  unfold reads formed at h
  simp only [Bool.and_eq_true, decide_eq_true_eq] at h
  obtain ⟨⟨⟨hl, h4, h7⟩, a, b, c⟩, _⟩ := h
  have hf : fm l = 0 := by
    cases k : decide (fm l = 0)
    · have k' : fm l ≠ 0 := by simpa using k
      have := dp_or (fm_all k') (i := 4) (by omega)
      rw [h4] at this
      exact absurd this (by decide)
    · simpa using k
  have hd : isDg (l.getD 0 0) = true := by
    obtain ⟨x0, x1, x2, x3, x4, x5, x6, x7, x8, x9, rfl⟩ := ten hl
    simp only [List.take_succ_cons, List.take_zero, List.all_cons, Bool.and_eq_true] at a
    exact a.1
  obtain ⟨h1, h2, h3⟩ := digit_head hd
  rw [kd_kw, h1, h2, h3, hf, h0]
  rfl
theorem kd_reads {l : List UInt8} (h : kd l = 4) : reads l = true := by
  rw [kd_kw] at h
  unfold kw at h
  cases k : reads l
  · rw [k] at h
    repeat' split at h
    all_goals first | omega | (exfalso; simp at *)
  · rfl
/-- A number's letters say that they are one: else they are bad, whatever is asked. -/
theorem pw_none {l : List UInt8} (p m : Int) (h : kd l ≠ 3) : pN l p m = 0 ∧ pW l p m = 1 := by
  have hf : fm l = 0 := by
    cases k : decide (fm l = 0)
    · exact absurd (fm_kd (by simpa using k)) h
    · simpa using k
  have hb : pBad l p = true := by unfold pBad; exact decide_eq_true (.inl hf)
  unfold pN pW
  rw [hb]
  exact ⟨rfl, rfl⟩
theorem pw_zero {l : List UInt8} (p m : Int) (h : pW l p m ≠ 0) : pN l p m = 0 := by
  unfold pN pW at *
  cases hb : pBad l p
  · cases hg : pGreat l p m
    · rw [hb, hg] at h; exact absurd rfl h
    · rfl
  · rfl
theorem pw_cases (l : List UInt8) (p m : Int) : pW l p m = 0 ∨ pW l p m = 1 ∨ pW l p m = 2 := by
  unfold pW
  repeat' split
  · exact .inr (.inl rfl)
  · exact .inr (.inr rfl)
  · exact .inl rfl

/-! The reader sees the tokens from a place on; behind a fault the end alone. -/
def vw (ts : List Tok) (s : St) : Nat := if s.err = 0 then s.i else ts.length - 1
def vk (ts : List Tok) (s : St) : Tok := ts.getD (vw ts s) nil0
theorem vw_ok {ts : List Tok} {s : St} (h : s.err = 0) : vw ts s = s.i := if_pos h
theorem vw_bad {ts : List Tok} {s : St} (h : ¬ s.err = 0) : vw ts s = ts.length - 1 := if_neg h
theorem vk_ok {ts : List Tok} {s : St} (h : s.err = 0) : vk ts s = tk ts s := by unfold vk tk; rw [vw_ok h]
theorem vw_lt {ts : List Tok} {s : St} (h : Ok ts s) : vw ts s < ts.length := by
  have := h.lt
  unfold vw
  split <;> omega
theorem vk_at {ts : List Tok} {s : St} (h : Ok ts s) : ts[vw ts s]? = some (vk ts s) := by
  unfold vk
  rw [List.getElem?_eq_getElem (vw_lt h), List.getD_eq_getElem?_getD, List.getElem?_eq_getElem (vw_lt h)]
  rfl
theorem vk_bad {ts : List Tok} {s : St} (hk : Knd ts) (h : Ok ts s) (e : ¬ s.err = 0) : (vk ts s).k = 0 ∧ (vk ts s).t = [] := by
  have h0 := h.toks.last _ _ (vk_at h) (by rw [vw_bad e]; have := h.lt; omega)
  exact ⟨h0, (hk _ (List.mem_of_getElem? (vk_at h))).2 h0⟩
theorem vk_kd {ts : List Tok} {s : St} (hk : Knd ts) (h : Ok ts s) : kd (vk ts s).t = (vk ts s).k := (hk _ (List.mem_of_getElem? (vk_at h))).1
/-- Letters that a word or a sign has. -/
def Wd (l : List UInt8) : Prop := l ≠ [] ∧ (kd l = 2 ∨ kd l = 5)
instance (l : List UInt8) : Decidable (Wd l) := by unfold Wd; exact inferInstance
theorem on_view {ts : List Tok} {s : St} {l : List UInt8} (hk : Knd ts) (h : Ok ts s) (hl : Wd l) : onW ts s l = ((vk ts s).t == l) := by
  by_cases e : s.err = 0
  · unfold onW
    rw [vk_ok e, decide_eq_true e, Bool.true_and]
    cases k : ((tk ts s).t == l)
    · rw [Bool.and_false]
    · have h1 : (tk ts s).t = l := by simpa using k
      have h2 := vk_kd hk h
      rw [vk_ok e, h1] at h2
      rcases hl.2 with h3 | h3
      · rw [h3] at h2; rw [← h2]; rfl
      · rw [h3] at h2; rw [← h2]; rfl
  · unfold onW
    rw [decide_eq_false e, Bool.false_and, (vk_bad hk h e).2]
    have := hl.1
    cases l with
    | nil => exact absurd rfl this
    | cons a r => rfl
theorem is_view {ts : List Tok} {s : St} {k : Nat} (hk : Knd ts) (h : Ok ts s) (h0 : k ≠ 0) : isTk ts s k = decide ((vk ts s).k = k) := by
  unfold isTk
  by_cases e : s.err = 0
  · rw [vk_ok e, decide_eq_true e, Bool.true_and]
  · rw [(vk_bad hk h e).1, decide_eq_false e, Bool.false_and, decide_eq_false (fun c => h0 c.symm)]
theorem go_view {ts : List Tok} {s : St} (hk : Knd ts) (h : Ok ts s) : goesOn ts s = !decide ((vk ts s).k = 0) := by
  unfold goesOn
  by_cases e : s.err = 0
  · rw [vk_ok e, decide_eq_true e, Bool.true_and]
  · rw [(vk_bad hk h e).1, decide_eq_false e, Bool.false_and]
    rfl
theorem is_err {ts : List Tok} {s : St} {k : Nat} (h : isTk ts s k = true) : s.err = 0 := by
  unfold isTk at h
  simp only [Bool.and_eq_true, decide_eq_true_eq] at h
  exact h.1
theorem on_err {ts : List Tok} {s : St} {l : List UInt8} (h : onW ts s l = true) : s.err = 0 := by
  unfold onW at h
  simp only [Bool.and_eq_true, decide_eq_true_eq] at h
  exact h.1
/-- A number, as the reader reads it: by its letters alone. -/
theorem num_yes {ts : List Tok} {s : St} {p m : Int} (hk : Knd ts) (h : Ok ts s) (hw : pW (vk ts s).t p m = 0) : isTk ts s 3 = true ∧ numS ts s p m = (pN (vk ts s).t p m, s.next) := by
  have h3 : kd (vk ts s).t = 3 := by
    rcases Nat.decEq (kd (vk ts s).t) 3 with c | c
    · rw [(pw_none p m c).2] at hw; cases hw
    · exact c
  have hi : isTk ts s 3 = true := by rw [is_view hk h (by decide), ← vk_kd hk h, h3]; rfl
  refine ⟨hi, ?_⟩
  unfold numS
  rw [if_pos hi, ← vk_ok (is_err hi), hw]
  rfl
theorem num_no {ts : List Tok} {s : St} {p m : Int} (hw : pW (vk ts s).t p m = 1) : numS ts s p m = (pN (vk ts s).t p m, wrg ts s 4) ∨ (isTk ts s 3 = true ∧ numS ts s p m = (pN (vk ts s).t p m, (wrg ts s 4).next)) := by
  by_cases hi : isTk ts s 3 = true
  · right
    refine ⟨hi, ?_⟩
    unfold numS
    rw [if_pos hi, ← vk_ok (is_err hi), hw]
    rfl
  · left
    unfold numS
    rw [if_neg hi, pw_zero p m (by rw [hw]; decide)]
theorem num_great {ts : List Tok} {s : St} {p m : Int} (hk : Knd ts) (h : Ok ts s) (hw : pW (vk ts s).t p m = 2) : isTk ts s 3 = true ∧ numS ts s p m = (pN (vk ts s).t p m, (wrg ts s 6).next) := by
  have h3 : kd (vk ts s).t = 3 := by
    rcases Nat.decEq (kd (vk ts s).t) 3 with c | c
    · rw [(pw_none p m c).2] at hw; cases hw
    · exact c
  have hi : isTk ts s 3 = true := by rw [is_view hk h (by decide), ← vk_kd hk h, h3]; rfl
  refine ⟨hi, ?_⟩
  unfold numS
  rw [if_pos hi, ← vk_ok (is_err hi), hw]
  rfl
theorem day_view {ts : List Tok} {s : St} (hk : Knd ts) (h : Ok ts s) : isTk ts s 4 = reads (vk ts s).t := by
  rw [is_view hk h (by decide), ← vk_kd hk h]
  cases k : reads (vk ts s).t
  · rw [decide_eq_false]
    intro c
    rw [kd_reads c] at k
    cases k
  · rw [reads_kd k]; rfl
theorem day_yes {ts : List Tok} {s : St} (hk : Knd ts) (h : Ok ts s) (hr : reads (vk ts s).t = true) : dayS ts s = (⟨yearOf (vk ts s).t, monthOf (vk ts s).t, dayOf (vk ts s).t⟩, s.next) := by
  have hi := (day_view hk h).trans hr
  unfold dayS tkn dayOf'
  rw [if_pos hi, ← vk_ok (is_err hi), if_pos hr]
theorem day_no {ts : List Tok} {s : St} (hk : Knd ts) (h : Ok ts s) (hr : reads (vk ts s).t = false) : dayS ts s = (⟨0, 0, 0⟩, wrg ts s 4) := by
  have hi := (day_view hk h).trans hr
  unfold dayS tkn dayOf'
  rw [hi]
  rfl
theorem wrg_err {ts : List Tok} {s : St} {e : Int} (he : e ≠ 0) : ¬ (wrg ts s e).err = 0 := by
  unfold wrg
  split
  · exact he
  · assumption
theorem ok_wrg_next {ts : List Tok} {s : St} {e : Int} (h : Ok ts s.next) : Ok ts (wrg ts s e).next := ⟨h.toks, by have := h.lt; show (wrg ts s e).i + 1 < _; rw [wrg_i]; exact this⟩
end Go.Proofs.YteelbdcgdkpioaaGreatDoor.P

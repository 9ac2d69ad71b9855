/- What the letters of a text's tokens say of their kinds, and what a reader that has gone wrong sees: the end alone. Pure: no program is named here. -/
import Derived.Test.YtinadkgfhoibkaaDoorJLexK
namespace Go.Proofs.YtinadkgfhoibkaaDoor.P
open Go.RowKit Mm

/-- Each token is of the kind that its letters are; the end has none. -/
def Knd (ts : List Tok) : Prop := ∀ t ∈ ts, kd t.t = t.k ∧ (t.k = 0 → t.t = [])
theorem kd_nil : kd [] = 0 := by decide
theorem lx_knd (n : Nat) (l : List UInt8) (ln cl : Nat) : Knd (lx n l ln cl).1 := by
  induction n generalizing l ln cl with
  | zero => intro t ht; rw [List.mem_singleton.1 ht]; exact ⟨kd_nil, fun _ => rfl⟩
  | succ n ih =>
    cases l with
    | nil => intro t ht; rw [List.mem_singleton.1 ht]; exact ⟨kd_nil, fun _ => rfl⟩
    | cons c r =>
      unfold lx
      split
      · exact ih _ _ _
      · split
        · intro t ht; cases ht
        · rename_i hk
          intro t ht
          rcases List.mem_cons.1 ht with rfl | ht
          · exact ⟨rfl, fun e => absurd e hk⟩
          · exact ih _ _ _ t ht
theorem lexed_knd (l : List UInt8) : Knd (lexed l).1 := by
  unfold lexed
  split
  · intro t ht; cases ht
  · split
    · exact lx_knd _ _ _ _
    · intro t ht; cases ht
theorem words_head : words.all (fun w => !isDg (w.getD 0 0)) = true := by decide
theorem digit_head {l : List UInt8} (hd : isDg (l.getD 0 0) = true) : sgn l = false ∧ words.contains l = false ∧ nm l = false := by
  refine ⟨?_, ?_, ?_⟩
  · cases k : sgn l
    · rfl
    · rcases (sgn_iff l).1 k with rfl | rfl | rfl <;> exact absurd hd (by decide)
  · cases k : words.contains l
    · rfl
    · have := List.all_eq_true.1 words_head l (List.contains_iff_mem.1 k)
      rw [hd] at this
      cases this
  · unfold nm; rw [hd]; simp
theorem fm_kd {l : List UInt8} (h : fm l ≠ 0) : kd l = 3 := by
  have hd : isDg (l.getD 0 0) = true := by
    cases k : isDg (l.getD 0 0)
    · exact absurd (fm_first k) h
    · rfl
  obtain ⟨h1, h2, h3⟩ := digit_head hd
  rw [kd_kw, h1, h2, h3]
  unfold kw
  simp [h]
theorem reads_kd {l : List UInt8} (h : reads l = true) : kd l = 4 := by
  have h0 := h
  unfold reads formed at h
  simp only [Bool.and_eq_true, decide_eq_true_eq] at h
  obtain ⟨⟨⟨hl, h4, h7⟩, a, b, c⟩, _⟩ := h
  have hf : fm l = 0 := by
    cases k : decide (fm l = 0)
    · have k' : fm l ≠ 0 := by simpa using k
      have := dp_or (fm_all k') (i := 4) (by omega)
      rw [h4] at this
      exact absurd this (by decide)
    · simpa using k
  have hd : isDg (l.getD 0 0) = true := by
    obtain ⟨x0, x1, x2, x3, x4, x5, x6, x7, x8, x9, rfl⟩ := ten hl
    simp only [List.take_succ_cons, List.take_zero, List.all_cons, Bool.and_eq_true] at a
    exact a.1
  obtain ⟨h1, h2, h3⟩ := digit_head hd
  rw [kd_kw, h1, h2, h3, hf, h0]
  rfl
theorem kd_reads {l : List UInt8} (h : kd l = 4) : reads l = true := by
  rw [kd_kw] at h
  unfold kw at h
  cases k : reads l
  · rw [k] at h
    repeat' split at h
    all_goals first | omega | (exfalso; simp at *)
  · rfl
/-- A number's letters say that they are one: else they are bad, whatever is asked. -/
theorem pw_none {l : List UInt8} (p m : Int) (h : kd l ≠ 3) : pN l p m = 0 ∧ pW l p m = 1 := by
  have hf : fm l = 0 := by
    cases k : decide (fm l = 0)
    · exact absurd (fm_kd (by simpa using k)) h
    · simpa using k
  have hb : pBad l p = true := by unfold pBad; exact decide_eq_true (.inl hf)
  unfold pN pW
  rw [hb]
  exact ⟨rfl, rfl⟩
theorem pw_zero {l : List UInt8} (p m : Int) (h : pW l p m ≠ 0) : pN l p m = 0 := by
  unfold pN pW at *
  cases hb : pBad l p
  · cases hg : pGreat l p m
    · rw [hb, hg] at h; exact absurd rfl h
    · rfl
  · rfl
theorem pw_cases (l : List UInt8) (p m : Int) : pW l p m = 0 ∨ pW l p m = 1 ∨ pW l p m = 2 := by
  unfold pW
  repeat' split
  · exact .inr (.inl rfl)
  · exact .inr (.inr rfl)
  · exact .inl rfl

/-! The reader sees the tokens from a place on; behind a fault the end alone. -/
def vw (ts : List Tok) (s : St) : Nat := if s.err = 0 then s.i else ts.length - 1
def vk (ts : List Tok) (s : St) : Tok := ts.getD (vw ts s) nil0
theorem vw_ok {ts : List Tok} {s : St} (h : s.err = 0) : vw ts s = s.i := if_pos h
theorem vw_bad {ts : List Tok} {s : St} (h : ¬ s.err = 0) : vw ts s = ts.length - 1 := if_neg h
theorem vk_ok {ts : List Tok} {s : St} (h : s.err = 0) : vk ts s = tk ts s := by unfold vk tk; rw [vw_ok h]
theorem vw_lt {ts : List Tok} {s : St} (h : Ok ts s) : vw ts s < ts.length := by
  have := h.lt
  unfold vw
  split <;> omega
theorem vk_at {ts : List Tok} {s : St} (h : Ok ts s) : ts[vw ts s]? = some (vk ts s) := by
  unfold vk
  rw [List.getElem?_eq_getElem (vw_lt h), List.getD_eq_getElem?_getD, List.getElem?_eq_getElem (vw_lt h)]
  rfl
theorem vk_bad {ts : List Tok} {s : St} (hk : Knd ts) (h : Ok ts s) (e : ¬ s.err = 0) : (vk ts s).k = 0 ∧ (vk ts s).t = [] := by
  have h0 := h.toks.last _ _ (vk_at h) (by rw [vw_bad e]; have := h.lt; omega)
  exact ⟨h0, (hk _ (List.mem_of_getElem? (vk_at h))).2 h0⟩
theorem vk_kd {ts : List Tok} {s : St} (hk : Knd ts) (h : Ok ts s) : kd (vk ts s).t = (vk ts s).k := (hk _ (List.mem_of_getElem? (vk_at h))).1
/-- Letters that a word or a sign has. -/
def Wd (l : List UInt8) : Prop := l ≠ [] ∧ (kd l = 2 ∨ kd l = 5)
instance (l : List UInt8) : Decidable (Wd l) := by unfold Wd; exact inferInstance
theorem on_view {ts : List Tok} {s : St} {l : List UInt8} (hk : Knd ts) (h : Ok ts s) (hl : Wd l) : onW ts s l = ((vk ts s).t == l) := by
  by_cases e : s.err = 0
  · unfold onW
    rw [vk_ok e, decide_eq_true e, Bool.true_and]
    cases k : ((tk ts s).t == l)
    · rw [Bool.and_false]
    · have h1 : (tk ts s).t = l := by simpa using k
      have h2 := vk_kd hk h
      rw [vk_ok e, h1] at h2
      rcases hl.2 with h3 | h3
      · rw [h3] at h2; rw [← h2]; rfl
      · rw [h3] at h2; rw [← h2]; rfl
  · unfold onW
    rw [decide_eq_false e, Bool.false_and, (vk_bad hk h e).2]
    have := hl.1
    cases l with
    | nil => exact absurd rfl this
    | cons a r => rfl
theorem is_view {ts : List Tok} {s : St} {k : Nat} (hk : Knd ts) (h : Ok ts s) (h0 : k ≠ 0) : isTk ts s k = decide ((vk ts s).k = k) := by
  unfold isTk
  by_cases e : s.err = 0
  · rw [vk_ok e, decide_eq_true e, Bool.true_and]
  · rw [(vk_bad hk h e).1, decide_eq_false e, Bool.false_and, decide_eq_false (fun c => h0 c.symm)]
theorem go_view {ts : List Tok} {s : St} (hk : Knd ts) (h : Ok ts s) : goesOn ts s = !decide ((vk ts s).k = 0) := by
  unfold goesOn
  by_cases e : s.err = 0
  · rw [vk_ok e, decide_eq_true e, Bool.true_and]
  · rw [(vk_bad hk h e).1, decide_eq_false e, Bool.false_and]
    rfl
theorem is_err {ts : List Tok} {s : St} {k : Nat} (h : isTk ts s k = true) : s.err = 0 := by
  unfold isTk at h
  simp only [Bool.and_eq_true, decide_eq_true_eq] at h
  exact h.1
theorem on_err {ts : List Tok} {s : St} {l : List UInt8} (h : onW ts s l = true) : s.err = 0 := by
  unfold onW at h
  simp only [Bool.and_eq_true, decide_eq_true_eq] at h
  exact h.1
/-- A number, as the reader reads it: by its letters alone. -/
theorem num_yes {ts : List Tok} {s : St} {p m : Int} (hk : Knd ts) (h : Ok ts s) (hw : pW (vk ts s).t p m = 0) : isTk ts s 3 = true ∧ numS ts s p m = (pN (vk ts s).t p m, s.next) := by
  have h3 : kd (vk ts s).t = 3 := by
    rcases Nat.decEq (kd (vk ts s).t) 3 with c | c
    · rw [(pw_none p m c).2] at hw; cases hw
    · exact c
  have hi : isTk ts s 3 = true := by rw [is_view hk h (by decide), ← vk_kd hk h, h3]; rfl
  refine ⟨hi, ?_⟩
  unfold numS
  rw [if_pos hi, ← vk_ok (is_err hi), hw]
  rfl
theorem num_no {ts : List Tok} {s : St} {p m : Int} (hw : pW (vk ts s).t p m = 1) : numS ts s p m = (pN (vk ts s).t p m, wrg ts s 4) ∨ (isTk ts s 3 = true ∧ numS ts s p m = (pN (vk ts s).t p m, (wrg ts s 4).next)) := by
  by_cases hi : isTk ts s 3 = true
  · right
    refine ⟨hi, ?_⟩
    unfold numS
    rw [if_pos hi, ← vk_ok (is_err hi), hw]
    rfl
  · left
    unfold numS
    rw [if_neg hi, pw_zero p m (by rw [hw]; decide)]
theorem num_great {ts : List Tok} {s : St} {p m : Int} (hk : Knd ts) (h : Ok ts s) (hw : pW (vk ts s).t p m = 2) : isTk ts s 3 = true ∧ numS ts s p m = (pN (vk ts s).t p m, (wrg ts s 6).next) := by
  have h3 : kd (vk ts s).t = 3 := by
    rcases Nat.decEq (kd (vk ts s).t) 3 with c | c
    · rw [(pw_none p m c).2] at hw; cases hw
    · exact c
  have hi : isTk ts s 3 = true := by rw [is_view hk h (by decide), ← vk_kd hk h, h3]; rfl
  refine ⟨hi, ?_⟩
  unfold numS
  rw [if_pos hi, ← vk_ok (is_err hi), hw]
  rfl
theorem day_view {ts : List Tok} {s : St} (hk : Knd ts) (h : Ok ts s) : isTk ts s 4 = reads (vk ts s).t := by
  rw [is_view hk h (by decide), ← vk_kd hk h]
  cases k : reads (vk ts s).t
  · rw [decide_eq_false]
    intro c
    rw [kd_reads c] at k
    cases k
  · rw [reads_kd k]; rfl
theorem day_yes {ts : List Tok} {s : St} (hk : Knd ts) (h : Ok ts s) (hr : reads (vk ts s).t = true) : dayS ts s = (⟨yearOf (vk ts s).t, monthOf (vk ts s).t, dayOf (vk ts s).t⟩, s.next) := by
  have hi := (day_view hk h).trans hr
  unfold dayS tkn dayOf'
  rw [if_pos hi, ← vk_ok (is_err hi), if_pos hr]
theorem day_no {ts : List Tok} {s : St} (hk : Knd ts) (h : Ok ts s) (hr : reads (vk ts s).t = false) : dayS ts s = (⟨0, 0, 0⟩, wrg ts s 4) := by
  have hi := (day_view hk h).trans hr
  unfold dayS tkn dayOf'
  rw [hi]
  rfl
theorem wrg_err {ts : List Tok} {s : St} {e : Int} (he : e ≠ 0) : ¬ (wrg ts s e).err = 0 := by
  unfold wrg
  split
  · exact he
  · assumption
theorem ok_wrg_next {ts : List Tok} {s : St} {e : Int} (h : Ok ts s.next) : Ok ts (wrg ts s e).next := ⟨h.toks, by have := h.lt; show (wrg ts s e).i + 1 < _; rw [wrg_i]; exact this⟩
end Go.Proofs.YtinadkgfhoibkaaDoor.P

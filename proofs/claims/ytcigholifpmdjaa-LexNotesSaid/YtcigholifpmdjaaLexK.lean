/- Kinds of letters, asked in the order of the document's table: no program is named here. -/
import Derived.Test.YtcigholifpmdjaaLexR
namespace Go.Proofs.Ytcigholifpmdjaa.P
open Go.RowKit

/-- A letter that may stand in a name. -/
def isNm (b : UInt8) : Bool := decide (b.toNat = 95 ∨ (48 ≤ b.toNat ∧ b.toNat ≤ 57) ∨ (97 ≤ b.toNat ∧ b.toNat ≤ 122) ∨ (65 ≤ b.toNat ∧ b.toNat ≤ 90))
def nmI (x : Int) : Bool := decide (x = 95 ∨ (48 ≤ x ∧ x ≤ 57) ∨ (97 ≤ x ∧ x ≤ 122) ∨ (65 ≤ x ∧ x ≤ 90))
theorem nmI_of (b : UInt8) : nmI ((b.toNat : Nat) : Int) = isNm b := by unfold nmI isNm; rw [decide_eq_decide]; omega
theorem byte_is (b : UInt8) (n : UInt8) : (b == n) = decide (b.toNat = n.toNat) := by
  rw [Bool.eq_iff_iff, beq_iff_eq, decide_eq_true_eq, UInt8.toNat_inj]
theorem isLt_nm (b : UInt8) : isLt b = (isNm b || (b == 46 || b == 45)) := by
  rw [byte_is, byte_is]
  unfold isLt isNm
  rw [Bool.eq_iff_iff]
  simp only [Bool.or_eq_true, decide_eq_true_eq, show (46 : UInt8).toNat = 46 from rfl, show (45 : UInt8).toNat = 45 from rfl]
  omega
theorem isLt_dg {b : UInt8} (h : isDg b = true) : isLt b = true := by
  unfold isDg at h
  unfold isLt
  rw [decide_eq_true_eq] at h ⊢
  omega
theorem all_mono {p q : UInt8 → Bool} {l : List UInt8} (h : ∀ b, p b = true → q b = true) (a : l.all p = true) : l.all q = true := by
  rw [List.all_eq_true] at a ⊢
  exact fun b hb => h b (a b hb)
/-- Whether letters are of a name's form. -/
def nm (l : List UInt8) : Bool := (l.all isNm && !l.isEmpty) && !isDg (l.getD 0 0)
theorem words_lt : words.all (fun w => w.all isLt && !w.isEmpty) = true := by decide
theorem word_lt {l : List UInt8} (h : words.contains l = true) : l.all isLt = true ∧ l ≠ [] := by
  have := List.all_eq_true.1 words_lt l (List.contains_iff_mem.1 h)
  rw [Bool.and_eq_true] at this
  refine ⟨this.1, fun e => ?_⟩
  rw [e] at this
  cases this.2
theorem nm_lt {l : List UInt8} (h : nm l = true) : l.all isLt = true ∧ l ≠ [] := by
  unfold nm at h
  rw [Bool.and_eq_true, Bool.and_eq_true] at h
  refine ⟨all_mono (fun b hb => by rw [isLt_nm, hb]; rfl) h.1.1, fun e => ?_⟩
  rw [e] at h
  cases h.1.2
theorem fm_lt {l : List UInt8} (h : fm l ≠ 0) : l.all isLt = true ∧ l ≠ [] := by
  refine ⟨all_mono (fun b hb => ?_) (fm_all h), fun e => ?_⟩
  · unfold isDp at hb
    rw [Bool.or_eq_true] at hb
    rcases hb with h | h
    · exact isLt_dg h
    · rw [beq_iff_eq] at h; rw [h]; decide
  · rw [e] at h; exact h fm_empty
theorem reads_lt {l : List UInt8} (h : reads l = true) : l.all isLt = true ∧ l ≠ [] := by
  unfold reads formed at h
  simp only [Bool.and_eq_true, decide_eq_true_eq] at h
  obtain ⟨⟨⟨hl, h4, h7⟩, a, b, c⟩, _⟩ := h
  obtain ⟨x0, x1, x2, x3, x4, x5, x6, x7, x8, x9, rfl⟩ := ten hl
  have hd : ∀ b, isD b = true → isLt b = true := fun b hb => isLt_dg hb
  simp only [List.getD_cons_succ, List.getD_cons_zero] at h4 h7
  subst h4 h7
  simp only [List.take_succ_cons, List.take_zero, List.drop_succ_cons, List.drop_zero, List.all_cons, List.all_nil, Bool.and_true, Bool.and_eq_true] at a b c
  refine ⟨?_, by simp⟩
  simp only [List.all_cons, List.all_nil, Bool.and_true, Bool.and_eq_true]
  exact ⟨hd _ a.1, hd _ a.2.1, hd _ a.2.2.1, hd _ a.2.2.2, by decide, hd _ b.1, hd _ b.2, by decide, hd _ c.1, hd _ c.2⟩
theorem plain_nm {l : List UInt8} (h : l.all isLt = true) : plain l = l.all isNm := by
  induction l with
  | nil => rfl
  | cons b r ih =>
    rw [List.all_cons, Bool.and_eq_true] at h
    have i := ih h.2
    unfold plain at i ⊢
    rw [List.all_cons, List.all_cons, i]
    have := h.1
    rw [isLt_nm] at this
    have hn : isNm b = (!(b == 46) && !(b == 45)) := by
      cases h1 : (b == 46)
      · cases h2 : (b == 45)
        · rw [h1, h2] at this; simpa using this
        · rw [beq_iff_eq] at h2; subst h2; decide
      · rw [beq_iff_eq] at h1; subst h1; decide
    rw [hn]
/-- The kind, asked in the order of the table. -/
def kw (sg wd n : Bool) (f : Nat) (d : Bool) : Nat := if sg then 5 else if wd then 2 else if n then 1 else if f ≠ 0 then 3 else if d then 4 else 0
def sgn (l : List UInt8) : Bool := l == [123] || (l == [125] || l == [59])
theorem sgn_iff (l : List UInt8) : sgn l = true ↔ (l = [123] ∨ l = [125] ∨ l = [59]) := by unfold sgn; simp only [Bool.or_eq_true, beq_iff_eq]
theorem kd_kw (l : List UInt8) : kd l = kw (sgn l) (words.contains l) (nm l) (fm l) (reads l) := by
  unfold kd kw
  by_cases hs : sgn l = true
  · rw [if_pos ((sgn_iff l).1 hs), if_pos hs]
  · rw [if_neg (fun h => hs ((sgn_iff l).2 h)), if_neg hs]
    by_cases hb : l = [] ∨ l.all isLt = false
    · have no : ¬ (l.all isLt = true ∧ l ≠ []) := by
        rintro ⟨a, b⟩
        rcases hb with h | h
        · exact b h
        · rw [h] at a; cases a
      rw [if_pos hb, if_neg (fun h => no (word_lt h)), if_neg (fun h => no (nm_lt h)), if_neg (fun h => no (fm_lt h)), if_neg (fun h => no (reads_lt h))]
    · rw [if_neg hb]
      have ha : l.all isLt = true := by
        cases h : l.all isLt
        · exact absurd (.inr h) hb
        · rfl
      have hn : nm l = (plain l && !isDg (l.getD 0 0)) := by
        unfold nm
        rw [plain_nm ha]
        cases l with
        | nil => exact absurd (.inl rfl) hb
        | cons a r => simp
      rw [hn]
/-- Where the piece that begins at a place ends. -/
def ends (l : List UInt8) (i : Nat) : Nat := i + piece (l.drop i)
end Go.Proofs.Ytcigholifpmdjaa.P

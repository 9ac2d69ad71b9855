/- What package lex does: letters, signs, words, names. -/
import Derived.Test.YtcigholifpmdjaaLexK
import Derived.Test.YtcigholifpmdjaaRef5
namespace Go.Proofs.Ytcigholifpmdjaa.Le
open Go.RowKit P R4 R5

theorem digit_any (x : Int) (w : World) : Calls Try.prog 25 #[.int .u8 x] w fun e w' => e = .returned (.bool (dgI x)) ∧ w' = w := by
  go_enter Try.func25, Try.ntmps25
  go_wp2
  all_goals
    go_ret
    refine ⟨ret_b ?_, rfl⟩
    unfold dgI
    simp_all
    try omega
set_option maxHeartbeats 1000000 in
theorem inName_any (x : Int) (w : World) : Calls Try.prog 24 #[.int .u8 x] w fun e w' => e = .returned (.bool (nmI x)) ∧ w' = w := by
  go_enter Try.func24, Try.ntmps24
  go_wp2_with (go_at_call 25; refine (digit_any _ _).mono ?_; rintro e w' ⟨rfl, h'⟩; rw [h'])
  all_goals
    go_ret
    refine ⟨ret_b ?_, rfl⟩
    unfold nmI
    try unfold dgI
    simp_all
    try (rw [Bool.eq_iff_iff]; simp only [Bool.or_eq_true, Bool.and_eq_true, beq_iff_eq, decide_eq_true_eq]; omega)
set_option maxHeartbeats 1000000 in
theorem inRow_any (x : Int) (w : World) : Calls Try.prog 23 #[.int .u8 x] w fun e w' => e = .returned (.bool (ltI x)) ∧ w' = w := by
  have e : ltI x = (nmI x || (x == 46 || x == 45)) := by
    rw [Bool.eq_iff_iff]
    unfold ltI nmI
    simp only [Bool.or_eq_true, beq_iff_eq, decide_eq_true_eq]
    omega
  rw [e]
  clear e
  rcases Bool.eq_false_or_eq_true (nmI x) with hn | hn
  all_goals
    have cN := inName_any x w
    rw [hn] at cN
    have HN := hid hn
    clear hn
    go_enter Try.func23, Try.ntmps23
    go_wp2_with (go_at_call 24; refine cN.mono ?_; rintro e w' ⟨rfl, h'⟩; rw [h'])
    all_goals
      go_ret
      refine ⟨ret_b ?_, rfl⟩
      rw [HN.out]
      first | rfl | (simp_all; done) | exact Bool.or_assoc _ _ _
theorem blank_any (x : Int) (w : World) : Calls Try.prog 12 #[.int .u8 x] w fun e w' => e = .returned (.bool (x == 32 || (x == 9 || x == 13))) ∧ w' = w := by
  go_enter Try.func12, Try.ntmps12
  go_wp2
  all_goals
    go_ret
    refine ⟨ret_b ?_, rfl⟩
    first | rfl | (simp_all; done) | exact Bool.or_assoc _ _ _
theorem note_any (x : Int) (w : World) : Calls Try.prog 22 #[.int .u8 x] w fun e w' => e = .returned (.bool (x != 10)) ∧ w' = w := by
  go_enter Try.func22, Try.ntmps22
  go_wp2
  go_ret
  exact ⟨rfl, rfl⟩
theorem sign_any (s : ByteArray) (w : World) : Calls Try.prog 14 #[.string s] w fun e w' => e = .returned (.bool (sgn s.data.toList)) ∧ w' = w := by
  have htl : s.toList = s.data.toList := Lib.toList_data s
  obtain ⟨l, hl⟩ : ∃ l, l = s.data.toList := ⟨_, rfl⟩
  rw [← hl] at htl ⊢
  clear hl
  go_enter Try.func14, Try.ntmps14
  go_wp2
  all_goals
    go_ret
    refine ⟨ret_b ?_, rfl⟩
    unfold sgn
    first | rfl | (simp_all; done) | exact Bool.or_assoc _ _ _
set_option maxHeartbeats 4000000 in
theorem word_any (s : ByteArray) (w : World) : Calls Try.prog 15 #[.string s] w fun e w' => e = .returned (.bool (words.contains s.data.toList)) ∧ w' = w := by
  have htl : s.toList = s.data.toList := Lib.toList_data s
  obtain ⟨l, hl⟩ : ∃ l, l = s.data.toList := ⟨_, rfl⟩
  rw [← hl] at htl ⊢
  clear hl
  go_enter Try.func15, Try.ntmps15
  go_wp2
  all_goals
    go_ret
    refine ⟨ret_b ?_, rfl⟩
    unfold words
    first | rfl | (simp_all; done) | exact Bool.or_assoc _ _ _
end Go.Proofs.Ytcigholifpmdjaa.Le

/- Layer 1's laws over package exact alone: ExactOrder, ExactSigns, ExactBack: the law's body returns true. -/
import Derived.Test.YtgbpginecahieaaL01Alive
import Derived.WalkSmall
namespace Go.Proofs.Ytgbpginecahieaa.L01
open Go.RowKit P Ex

theorem order_yes (a b c : Int) (ha : I64 a) (hb : I64 b) (w : World) (h : I64 (a + b)) (h' : I64 (a + c)) :
    Calls Try.prog 7 #[.int .i64 a, .int .i64 b, .int .i64 c] w fun e w' => e = .returned (.bool true) ∧ Below w.heap.size w w' := by
  have h2 : I64 (b + a) := by rw [Int.add_comm]; exact h
  have E := hid (Int.add_comm b a)
  have EM := hid (Int.mul_comm b a)
  go_enter Try.func7, Try.ntmps7
  go_wp2_with fail
  refine (alive_any _).mono ?_; rintro e w' ⟨rfl, n, rfl⟩
  go_wp2_with fail
  refine (add_yes _ _ _ h).mono ?_; rintro e w' ⟨rfl, rfl⟩
  go_wp2_with fail
  refine (add_yes _ _ _ h2).mono ?_; rintro e w' ⟨rfl, rfl⟩; rw [E.out]
  go_wp2_with fail
  refine (mul_any _ _ _ ha hb).mono ?_; rintro e w' ⟨rfl, rfl⟩
  go_wp2_with fail
  refine (mul_any _ _ _ hb ha).mono ?_; rintro e w' ⟨rfl, rfl⟩; rw [EM.out]
  go_wp2_with fail
  refine (add_yes _ _ _ h').mono ?_; rintro e w' ⟨rfl, rfl⟩
  go_wp2
  go_ret
  exact ⟨rfl, below_drewN (Below.refl _ _) _⟩
theorem order_half (a b c : Int) (ha : I64 a) (hb : I64 b) (hc : I64 c) (w : World) (h : I64 (a + b)) (h' : ¬ I64 (a + c)) :
    Calls Try.prog 7 #[.int .i64 a, .int .i64 b, .int .i64 c] w fun e w' => e = .returned (.bool true) ∧ Below w.heap.size w w' := by
  have h2 : I64 (b + a) := by rw [Int.add_comm]; exact h
  have E := hid (Int.add_comm b a)
  have EM := hid (Int.mul_comm b a)
  have H' := hid h'
  clear h'
  go_enter Try.func7, Try.ntmps7
  go_wp2_with fail
  refine (alive_any _).mono ?_; rintro e w' ⟨rfl, n, rfl⟩
  go_wp2_with fail
  refine (add_yes _ _ _ h).mono ?_; rintro e w' ⟨rfl, rfl⟩
  go_wp2_with fail
  refine (add_yes _ _ _ h2).mono ?_; rintro e w' ⟨rfl, rfl⟩; rw [E.out]
  go_wp2_with fail
  refine (mul_any _ _ _ ha hb).mono ?_; rintro e w' ⟨rfl, rfl⟩
  go_wp2_with fail
  refine (mul_any _ _ _ hb ha).mono ?_; rintro e w' ⟨rfl, rfl⟩; rw [EM.out]
  go_wp2_with fail
  refine (add_no _ _ _ ha hc H'.out).mono ?_; rintro e w' ⟨rfl, rfl⟩
  go_wp2
  go_ret
  exact ⟨rfl, below_drewN (Below.refl _ _) _⟩
theorem order_no (a b c : Int) (ha : I64 a) (hb : I64 b) (hc : I64 c) (w : World) (h : ¬ I64 (a + b)) :
    Calls Try.prog 7 #[.int .i64 a, .int .i64 b, .int .i64 c] w fun e w' => e = .returned (.bool true) ∧ Below w.heap.size w w' := by
  have h2 : ¬ I64 (b + a) := by rw [Int.add_comm]; exact h
  have EM := hid (Int.mul_comm b a)
  have H := hid h
  have H2 := hid h2
  clear h h2
  go_enter Try.func7, Try.ntmps7
  go_wp2_with fail
  refine (alive_any _).mono ?_; rintro e w' ⟨rfl, n, rfl⟩
  go_wp2_with fail
  refine (add_no _ _ _ ha hb H.out).mono ?_; rintro e w' ⟨rfl, rfl⟩
  go_wp2_with fail
  refine (add_no _ _ _ hb ha H2.out).mono ?_; rintro e w' ⟨rfl, rfl⟩
  go_wp2_with fail
  refine (mul_any _ _ _ ha hb).mono ?_; rintro e w' ⟨rfl, rfl⟩
  go_wp2_with fail
  refine (mul_any _ _ _ hb ha).mono ?_; rintro e w' ⟨rfl, rfl⟩; rw [EM.out]
  go_wp2_with fail
  refine (add_any _ _ _ ha hc).mono ?_; rintro e w' ⟨rfl, rfl⟩
  go_wp2
  go_ret
  exact ⟨rfl, below_drewN (Below.refl _ _) _⟩
theorem order_walk (a : Int) (wa : (Lit.int .i64 a).wf = true) (b : Int) (wb : (Lit.int .i64 b).wf = true) (c : Int) (wc : (Lit.int .i64 c).wf = true) (w : World) :
    Calls Try.prog 7 #[.int .i64 a, .int .i64 b, .int .i64 c] w fun e w' => e = .returned (.bool true) ∧ Below w.heap.size w w' := by
  by_cases h : I64 (a + b)
  · by_cases h' : I64 (a + c)
    · exact order_yes a b c (i64_of_wf wa) (i64_of_wf wb) w h h'
    · exact order_half a b c (i64_of_wf wa) (i64_of_wf wb) (i64_of_wf wc) w h h'
  · exact order_no a b c (i64_of_wf wa) (i64_of_wf wb) (i64_of_wf wc) w h

/-! ExactSigns -/
theorem signs_least (w : World) :
    Calls Try.prog 8 #[.int .i64 (-9223372036854775808)] w fun e w' => e = .returned (.bool true) ∧ Below w.heap.size w w' := by
  have hl : I64 (-9223372036854775808) := by unfold I64; omega
  have h1 : ¬ I64 (0 - -9223372036854775808) := by unfold I64; omega
  have M1 : Hid (cut64 (-9223372036854775808 * -1) = 0) := cut64_f (by unfold I64; omega)
  have M2 : Hid (ok64 (-9223372036854775808 * -1) = false) := ok64_f (by unfold I64; omega)
  have H1 := hid h1
  have HL := hid hl
  clear h1 hl
  go_enter Try.func8, Try.ntmps8
  go_wp2_with fail
  refine (alive_any _).mono ?_; rintro e w' ⟨rfl, n, rfl⟩
  go_wp2_with fail
  refine (sub_no _ _ _ i64_0 HL.out H1.out).mono ?_; rintro e w' ⟨rfl, rfl⟩
  go_wp2_with fail
  refine (mul_any _ _ _ HL.out (by unfold I64; omega)).mono ?_; rintro e w' ⟨rfl, rfl⟩; rw [M1.out, M2.out]
  go_wp2_with fail
  refine (floor_no _ _ _ (Or.inr ⟨rfl, rfl⟩)).mono ?_; rintro e w' ⟨rfl, rfl⟩
  go_wp2
  go_ret
  exact ⟨rfl, below_drewN (Below.refl _ _) _⟩
theorem signs_more (a : Int) (ha : I64 a) (hn : a ≠ -9223372036854775808) (w : World) :
    Calls Try.prog 8 #[.int .i64 a] w fun e w' => e = .returned (.bool true) ∧ Below w.heap.size w w' := by
  have ht : (a == -9223372036854775808) = false := by simpa using hn
  have h1 : I64 (0 - a) := by unfold I64 at *; omega
  have h2 : I64 (a * -1) := by unfold I64 at *; omega
  have E0 : Hid (0 - a = -a) := by show 0 - a = -a; omega
  have M1 : Hid (cut64 (a * -1) = -a) := by show _ = _; rw [cut64_t h2]; omega
  have M2 : Hid (ok64 (a * -1) = true) := ok64_t h2
  have hf : a.fdiv (-1) = -a ∧ a.fmod (-1) = 0 := by have := @fdiv_like a (-1) (by omega) (Or.inl (by simp)); simp at this; omega
  have F1 := hid hf.1
  have F2 := hid hf.2
  have H1 := hid h1
  have HA := hid ha
  have HN := hid hn
  have H3 : Hid (I64 (a + -a)) := by show I64 _; unfold I64; omega
  have E3 : Hid (a + -a = 0) := by show _ = _; omega
  clear hf h1 h2 ha hn
  go_enter Try.func8, Try.ntmps8
  go_wp2_with fail
  refine (alive_any _).mono ?_; rintro e w' ⟨rfl, n, rfl⟩
  go_wp2_with fail
  refine (sub_yes _ _ _ H1.out).mono ?_; rintro e w' ⟨rfl, rfl⟩; rw [E0.out]
  go_wp2_with fail
  refine (mul_any _ _ _ HA.out (by unfold I64; omega)).mono ?_; rintro e w' ⟨rfl, rfl⟩; rw [M1.out, M2.out]
  go_wp2_with fail
  refine (floor_any _ _ _ HA.out (by unfold I64; omega) (by omega) (fun h => HN.out h.1)).mono ?_; rintro e w' ⟨rfl, m, rfl⟩; rw [F1.out, F2.out]
  go_wp2_with fail
  refine (add_yes _ _ _ H3.out).mono ?_; rintro e w' ⟨rfl, rfl⟩; rw [E3.out]
  go_wp2
  go_ret
  exact ⟨rfl, below_drewN (Below.refl _ _) _⟩
theorem signs_walk (a : Int) (wa : (Lit.int .i64 a).wf = true) (w : World) :
    Calls Try.prog 8 #[.int .i64 a] w fun e w' => e = .returned (.bool true) ∧ Below w.heap.size w w' := by
  by_cases h : a = -9223372036854775808
  · subst h; exact signs_least w
  · exact signs_more a (i64_of_wf wa) h w

/-! ExactBack: the sum's part, then the product's -/
/-- What the law's second half finds, whatever the first half did: it holds over any program piece that ends so. -/
theorem back_fdiv {a b : Int} (hb : b ≠ 0) : (a * b).fdiv b = a ∧ (a * b).fmod b = 0 := by
  have := @fdiv_only (a * b) b a 0 hb (by rw [Int.mul_comm a b]; omega) (fun h => by omega) (fun h => by omega)
  omega
theorem back_walk (a : Int) (wa : (Lit.int .i64 a).wf = true) (b : Int) (wb : (Lit.int .i64 b).wf = true) (w : World) :
    Calls Try.prog 5 #[.int .i64 a, .int .i64 b] w fun e w' => e = .returned (.bool true) ∧ Below w.heap.size w w' := by
  have ha := i64_of_wf wa
  have hb := i64_of_wf wb
  clear wa wb
  have HA := hid ha
  have HB := hid hb
  have E1 : Hid (a + b - b = a) := by show _ = _; omega
  have S : Hid (I64 (a + b - b)) := by show I64 _; rw [E1.out]; exact ha
  by_cases hs : I64 (a + b)
  all_goals
    have HS := hid hs
    clear hs
    by_cases hm : I64 (a * b)
    · have M1 := hid (cut64_t hm)
      have M2 := hid (ok64_t hm)
      have HM := hid hm
      clear hm
      by_cases h0 : b = 0
      · have e0 : (b == 0) = true := by simpa using h0
        clear h0 ha hb
        go_enter Try.func5, Try.ntmps5
        go_wp2_with fail
        refine (alive_any _).mono ?_; rintro e w' ⟨rfl, n, rfl⟩
        go_wp2_with fail
        first
          | (refine (add_yes _ _ _ HS.out).mono ?_; rintro e w' ⟨rfl, rfl⟩
             go_wp2_with fail
             refine (sub_yes _ _ _ S.out).mono ?_; rintro e w' ⟨rfl, rfl⟩; rw [E1.out])
          | (refine (add_no _ _ _ HA.out HB.out HS.out).mono ?_; rintro e w' ⟨rfl, rfl⟩)
        go_wp2_with fail
        refine (mul_any _ _ _ HA.out HB.out).mono ?_; rintro e w' ⟨rfl, rfl⟩; rw [M1.out, M2.out]
        go_wp2
        go_ret
        exact ⟨rfl, below_drewN (Below.refl _ _) _⟩
      · have e0 : (b == 0) = false := by simpa using h0
        have F1 := hid (back_fdiv (a := a) h0).1
        have F2 := hid (back_fdiv (a := a) h0).2
        have H0 := hid h0
        clear h0 ha hb
        rcases Bool.eq_false_or_eq_true (a * b == -9223372036854775808) with e1 | e1
        · rcases Bool.eq_false_or_eq_true (b == -1) with e2 | e2
          · skip
            go_enter Try.func5, Try.ntmps5
            go_wp2_with fail
            refine (alive_any _).mono ?_; rintro e w' ⟨rfl, n, rfl⟩
            go_wp2_with fail
            first
              | (refine (add_yes _ _ _ HS.out).mono ?_; rintro e w' ⟨rfl, rfl⟩
                 go_wp2_with fail
                 refine (sub_yes _ _ _ S.out).mono ?_; rintro e w' ⟨rfl, rfl⟩; rw [E1.out])
              | (refine (add_no _ _ _ HA.out HB.out HS.out).mono ?_; rintro e w' ⟨rfl, rfl⟩)
            go_wp2_with fail
            refine (mul_any _ _ _ HA.out HB.out).mono ?_; rintro e w' ⟨rfl, rfl⟩; rw [M1.out, M2.out]
            go_wp2
            go_ret
            exact ⟨rfl, below_drewN (Below.refl _ _) _⟩
          · have HN : Hid (¬ (a * b = -9223372036854775808 ∧ b = -1)) := by show ¬ _; rintro ⟨_, h⟩; subst h; simp at e2
            go_enter Try.func5, Try.ntmps5
            go_wp2_with fail
            refine (alive_any _).mono ?_; rintro e w' ⟨rfl, n, rfl⟩
            go_wp2_with fail
            first
              | (refine (add_yes _ _ _ HS.out).mono ?_; rintro e w' ⟨rfl, rfl⟩
                 go_wp2_with fail
                 refine (sub_yes _ _ _ S.out).mono ?_; rintro e w' ⟨rfl, rfl⟩; rw [E1.out])
              | (refine (add_no _ _ _ HA.out HB.out HS.out).mono ?_; rintro e w' ⟨rfl, rfl⟩)
            go_wp2_with fail
            refine (mul_any _ _ _ HA.out HB.out).mono ?_; rintro e w' ⟨rfl, rfl⟩; rw [M1.out, M2.out]
            go_wp2_with fail
            refine (floor_any _ _ _ HM.out HB.out H0.out HN.out).mono ?_; rintro e w' ⟨rfl, m, rfl⟩; rw [F1.out, F2.out]
            go_wp2
            go_ret
            exact ⟨rfl, below_drewN (Below.refl _ _) _⟩
        · have HN : Hid (¬ (a * b = -9223372036854775808 ∧ b = -1)) := by show ¬ _; rintro ⟨h, _⟩; rw [h] at e1; simp at e1
          go_enter Try.func5, Try.ntmps5
          go_wp2_with fail
          refine (alive_any _).mono ?_; rintro e w' ⟨rfl, n, rfl⟩
          go_wp2_with fail
          first
            | (refine (add_yes _ _ _ HS.out).mono ?_; rintro e w' ⟨rfl, rfl⟩
               go_wp2_with fail
               refine (sub_yes _ _ _ S.out).mono ?_; rintro e w' ⟨rfl, rfl⟩; rw [E1.out])
            | (refine (add_no _ _ _ HA.out HB.out HS.out).mono ?_; rintro e w' ⟨rfl, rfl⟩)
          go_wp2_with fail
          refine (mul_any _ _ _ HA.out HB.out).mono ?_; rintro e w' ⟨rfl, rfl⟩; rw [M1.out, M2.out]
          go_wp2_with fail
          refine (floor_any _ _ _ HM.out HB.out H0.out HN.out).mono ?_; rintro e w' ⟨rfl, m, rfl⟩; rw [F1.out, F2.out]
          go_wp2
          go_ret
          exact ⟨rfl, below_drewN (Below.refl _ _) _⟩
    · have M1 := hid (cut64_f hm)
      have M2 := hid (ok64_f hm)
      clear hm ha hb
      · skip
        go_enter Try.func5, Try.ntmps5
        go_wp2_with fail
        refine (alive_any _).mono ?_; rintro e w' ⟨rfl, n, rfl⟩
        go_wp2_with fail
        first
          | (refine (add_yes _ _ _ HS.out).mono ?_; rintro e w' ⟨rfl, rfl⟩
             go_wp2_with fail
             refine (sub_yes _ _ _ S.out).mono ?_; rintro e w' ⟨rfl, rfl⟩; rw [E1.out])
          | (refine (add_no _ _ _ HA.out HB.out HS.out).mono ?_; rintro e w' ⟨rfl, rfl⟩)
        go_wp2_with fail
        refine (mul_any _ _ _ HA.out HB.out).mono ?_; rintro e w' ⟨rfl, rfl⟩; rw [M1.out, M2.out]
        go_wp2
        go_ret
        exact ⟨rfl, below_drewN (Below.refl _ _) _⟩
end Go.Proofs.Ytgbpginecahieaa.L01

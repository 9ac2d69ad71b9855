/- The laws of layer 3: alive, DateBack, DateTexts, DateYears. -/
import Derived.Test.YtagaoalafmdnbaaDoorDate5
namespace Go.Proofs.YtagaoalafmdnbaaDoor.L03
open Go.RowKit Go.Sort P Dt

/-- The day of a day's number. -/
theorem of_at (y m d : Int) (w : World) (g : good y m d = true) :
    Calls Tryd.prog 20 #[.int .i64 (num y m d)] w fun e w' => e = .returned (.tuple #[dv y m d, .bool true]) ∧ Below w.heap.size w w' := by
  have h := num_bound g
  refine (of_yes (num y m d) w h.1 h.2).mono ?_
  rintro e w' ⟨⟨y', m', d', g', hn, he⟩, hb⟩
  obtain ⟨rfl, rfl, rfl⟩ := num_inj g' g hn
  exact ⟨he, hb⟩
theorem on {w W w' : World} (h : Below w.heap.size w W) (hb : Below W.heap.size W w') : Below w.heap.size w w' := h.trans (hb.mono h.size)
theorem alive_any (w : World) (T : Tab w) : Calls Tryd.prog 9 #[] w fun e w' => e = .returned (.bool true) ∧ Below w.heap.size w w' := by
  have e1 : num 2024 2 29 = 738944 := by decide
  have e0 : num 1 1 1 = 0 := by decide
  have et : (txt 1 1 1).toArray = #[48, 48, 48, 49, 45, 48, 49, 45, 48, 49] := by decide
  have cN : ∀ W, Calls Tryd.prog 18 #[.agg #[.int .i64 2024, .int .i64 2, .int .i64 29]] W fun e w' => e = .returned (.tuple #[.int .i64 738944, .bool true]) ∧ Below W.heap.size W w' := fun W => by
    have := number_yes 2024 2 29 W (by decide)
    rwa [e1] at this
  have cO : ∀ W, Calls Tryd.prog 20 #[.int .i64 0] W fun e w' => e = .returned (.tuple #[.agg #[.int .i64 1, .int .i64 1, .int .i64 1], .bool true]) ∧ Below W.heap.size W w' := fun W => by
    have := of_at 1 1 1 W (by decide)
    rwa [e0] at this
  have cT : ∀ W, Tab W → Calls Tryd.prog 16 #[.agg #[.int .i64 1, .int .i64 1, .int .i64 1]] W fun e w' => e = .returned (.string ⟨#[48, 48, 48, 49, 45, 48, 49, 45, 48, 49]⟩) ∧ Below W.heap.size W w' := fun W T => by
    have := text_yes 1 1 1 W (by decide) T
    rwa [et] at this
  have cL : ∀ W, Calls Tryd.prog 10 #[.int .i64 2000] W fun e w' => e = .returned (.bool true) ∧ w' = W := fun W => leap_any 2000 W
  have cD : ∀ W, Calls Tryd.prog 12 #[.int .i64 1900, .int .i64 2] W fun e w' => e = .returned (.int .i64 28) ∧ w' = W := fun W => days_any 1900 2 W
  clear e1 e0 et
  go_enter Tryd.func9, Tryd.ntmps9
  go_wp2_with (first
    | (go_at_call 18; refine (cN _).mono ?_; rintro e w1 ⟨rfl, b1⟩)
    | (go_at_call 20; refine (cO _).mono ?_; rintro e w2 ⟨rfl, b2⟩; have B2 := on b1 b2)
    | (go_at_call 16; have B3 := B2.alloc B2.size (.cells #[.int .i64 1, .int .i64 1, .int .i64 1] 23); refine (cT _ (T.later B3)).mono ?_; rintro e w3 ⟨rfl, b3⟩; have B4 := on B3 b3)
    | (go_at_call 10; refine (cL _).mono ?_; rintro e w4 ⟨rfl, h4⟩; rw [h4])
    | (go_at_call 12; refine (cD _).mono ?_; rintro e w5 ⟨rfl, h5⟩; rw [h5]))
  go_ret
  exact ⟨rfl, B4⟩
theorem list_of (l : List UInt8) : (⟨l.toArray⟩ : ByteArray).data.toList = l := by simp
theorem parse_txt (y m d : Int) (g : good y m d = true) (W : World) : Calls Tryd.prog 22 #[.string ⟨(txt y m d).toArray⟩] W fun e w' => e = .returned (.tuple #[.agg #[.int .i64 y, .int .i64 m, .int .i64 d], .bool true]) ∧ Below W.heap.size W w' := by
  have h := parse_any ⟨(txt y m d).toArray⟩ W
  obtain ⟨h0, h1, h2, h3, h4, h5⟩ := good_small g
  obtain ⟨a, b, c⟩ := of_txt h0 h1 h2 h3 h4 h5
  rw [list_of, if_pos (reads_txt g), a, b, c] at h
  exact h
theorem back_walk (n : Int) (w : World) (T : Tab w) : Calls Tryd.prog 5 #[.int .i64 n] w fun e w' => e = .returned (.bool true) ∧ Below w.heap.size w w' := by
  by_cases h : n < 0 ∨ 3652059 ≤ n
  · have cO : ∀ W, Calls Tryd.prog 20 #[.int .i64 n] W fun e w' => e = .returned (.tuple #[.agg #[.int .i64 0, .int .i64 0, .int .i64 0], .bool false]) ∧ Below W.heap.size W w' := fun W => of_no n W h
    go_enter Tryd.func5, Tryd.ntmps5
    go_wp2_with (first
      | (go_at_call 9; refine (alive_any _ T).mono ?_; rintro e w1 ⟨rfl, b1⟩)
      | (go_at_call 20; refine (cO _).mono ?_; rintro e w2 ⟨rfl, b2⟩; have B2 := on b1 b2))
    all_goals
      go_ret
      refine ⟨ret_b ?_, B2.alloc B2.size _⟩
      simp_all
  · have cO : ∀ W, Calls Tryd.prog 20 #[.int .i64 n] W fun e w' => (∃ y m d, good y m d = true ∧ num y m d = n ∧ e = .returned (.tuple #[.agg #[.int .i64 y, .int .i64 m, .int .i64 d], .bool true])) ∧ Below W.heap.size W w' := fun W => of_yes n W (by omega) (by omega)
    go_enter Tryd.func5, Tryd.ntmps5
    go_wp2_with (first
      | (go_at_call 9; refine (alive_any _ T).mono ?_; rintro e w1 ⟨rfl, b1⟩)
      | (go_at_call 20; refine (cO _).mono ?_; rintro e w2 ⟨⟨y, m, d, g, hn, rfl⟩, b2⟩; have B2 := on b1 b2)
      | (go_at_call 18; refine (number_yes y m d _ g).mono ?_; rintro e w3 ⟨rfl, b3⟩; have L3 := Lies3.later b3 rfl; have B3 := on B2 (box3 b3).2.2.2.2; have L3' := L3; obtain ⟨l3, c0, c1, c2, f0, f1, f2⟩ := L3'; rw [hn])
      | (go_at_call 16; refine (text_yes y m d _ g (T.later B3)).mono ?_; rintro e w4 ⟨rfl, b4⟩; have L4 := L3.on b4; have B4 := on B3 b4; clear c0 c1 c2 f0 f1 f2)
      | (go_at_call 22; refine (parse_txt y m d g _).mono ?_; rintro e w5 ⟨rfl, b5⟩; have L5 := L4.on b5; have B5 := on B4 b5; obtain ⟨l5, c0, c1, c2, f0, f1, f2⟩ := L5))
    go_ret
    exact ⟨rfl, B5.alloc B5.size _⟩
theorem texts_walk (s : ByteArray) (w : World) (T : Tab w) : Calls Tryd.prog 8 #[.string s] w fun e w' => e = .returned (.bool true) ∧ Below w.heap.size w w' := by
  by_cases hs : (100 : Int) < (s.size : Int)
  · go_enter Tryd.func8, Tryd.ntmps8
    go_wp2_with (go_at_call 9; refine (alive_any _ T).mono ?_; rintro e w1 ⟨rfl, b1⟩)
    go_ret
    exact ⟨rfl, b1⟩
  · have hp := fun W => parse_any s W
    by_cases hr : reads s.data.toList = true
    · have g : good (yearOf s.data.toList) (monthOf s.data.toList) (dayOf s.data.toList) = true := by
        unfold reads at hr
        rw [Bool.and_eq_true] at hr
        exact hr.2
      have hf : formed s.data.toList = true := by
        unfold reads at hr
        rw [Bool.and_eq_true] at hr
        exact hr.1
      have ht := txt_of hf
      have hl : (s.size : Int) = 10 := by
        have := txt_length (yearOf s.data.toList) (monthOf s.data.toList) (dayOf s.data.toList)
        rw [ht] at this
        have e : s.data.toList.length = s.size := by simp
        omega
      simp only [if_pos hr] at hp
      obtain ⟨y, hy⟩ : ∃ y, y = yearOf s.data.toList := ⟨_, rfl⟩
      obtain ⟨m, hm⟩ : ∃ m, m = monthOf s.data.toList := ⟨_, rfl⟩
      obtain ⟨d, hd⟩ : ∃ d, d = dayOf s.data.toList := ⟨_, rfl⟩
      simp only [← hy, ← hm, ← hd] at hp g ht
      have es : (⟨(txt y m d).toArray⟩ : ByteArray) = s := by rw [ht]
      have cP : ∀ W, Calls Tryd.prog 22 #[.string s] W fun e w' => e = .returned (.tuple #[.agg #[.int .i64 y, .int .i64 m, .int .i64 d], .bool true]) ∧ Below W.heap.size W w' := hp
      have cG : ∀ W, Calls Tryd.prog 14 #[.agg #[.int .i64 y, .int .i64 m, .int .i64 d]] W fun e w' => e = .returned (.bool true) ∧ Below W.heap.size W w' := fun W => by
        have := good_any y m d W
        rwa [g] at this
      have cT : ∀ W, Tab W → Calls Tryd.prog 16 #[.agg #[.int .i64 y, .int .i64 m, .int .i64 d]] W fun e w' => e = .returned (.string s) ∧ Below W.heap.size W w' := fun W T => by
        have := text_yes y m d W g T
        rwa [es] at this
      clear hp hr g hf ht hy hm hd es
      go_enter Tryd.func8, Tryd.ntmps8
      go_wp2_with (first
        | (go_at_call 9; refine (alive_any _ T).mono ?_; rintro e w1 ⟨rfl, b1⟩)
        | (go_at_call 22; refine (cP _).mono ?_; rintro e w2 ⟨rfl, b2⟩; have B2 := on b1 b2)
        | (go_at_call 14; refine (cG _).mono ?_; rintro e w3 ⟨rfl, b3⟩; have L3 := Lies3.later b3 rfl; have B3 := on B2 (box3 b3).2.2.2.2; obtain ⟨l3, c0, c1, c2, f0, f1, f2⟩ := L3)
        | (go_at_call 16; refine (cT _ (T.later B3)).mono ?_; rintro e w4 ⟨rfl, b4⟩; have B4 := on B3 b4))
      go_ret
      exact ⟨rfl, B4⟩
    · have cP : ∀ W, Calls Tryd.prog 22 #[.string s] W fun e w' => e = .returned (.tuple #[.agg #[.int .i64 0, .int .i64 0, .int .i64 0], .bool false]) ∧ Below W.heap.size W w' := fun W => by
        have := hp W
        rw [if_neg hr] at this
        exact this
      clear hp hr
      go_enter Tryd.func8, Tryd.ntmps8
      go_wp2_with (first
        | (go_at_call 9; refine (alive_any _ T).mono ?_; rintro e w1 ⟨rfl, b1⟩)
        | (go_at_call 22; refine (cP _).mono ?_; rintro e w2 ⟨rfl, b2⟩; have B2 := on b1 b2))
      go_ret
      exact ⟨rfl, B2.alloc B2.size _⟩
end Go.Proofs.YtagaoalafmdnbaaDoor.L03

/- The laws of layer 3: DateOrder. -/
import Derived.Test.YtagaoalafmdnbaaDoorL03d
import Derived.Test.YtagaoalafmdnbaaDoorDatL
import Derived.Laws.Cover1
import Derived.Deep.CutBlock
import Derived.Deep.CutRange
import Derived.Deep.DeepCutAuto
namespace Go.Proofs.YtagaoalafmdnbaaDoor.L03
open Go.RowKit Go.Sort P Dt

theorem not_good (y m d y' m' d' : Int) (w : World) (T : Tab w) (h : good y m d = false ∨ good y' m' d' = false) :
    Calls Tryd.prog 6 #[.agg #[.int .i64 y, .int .i64 m, .int .i64 d], .agg #[.int .i64 y', .int .i64 m', .int .i64 d']] w fun e w' => e = .returned (.bool true) ∧ Below w.heap.size w w' := by
  have L : Lies3 ((w.alloc (.cells #[.int .i64 y, .int .i64 m, .int .i64 d] 23)).alloc (.cells #[.int .i64 y', .int .i64 m', .int .i64 d'] 23)) w.heap.size (.int .i64 y) (.int .i64 m) (.int .i64 d) := (Lies3.new rfl).alloc _
  have L' : Lies3 ((w.alloc (.cells #[.int .i64 y, .int .i64 m, .int .i64 d] 23)).alloc (.cells #[.int .i64 y', .int .i64 m', .int .i64 d'] 23)) (w.heap.size + 1) (.int .i64 y') (.int .i64 m') (.int .i64 d') := Lies3.new (by simp)
  have B0 : Below w.heap.size w ((w.alloc (.cells #[.int .i64 y, .int .i64 m, .int .i64 d] 23)).alloc (.cells #[.int .i64 y', .int .i64 m', .int .i64 d'] 23)) := ((Below.refl _ _).alloc (Nat.le_refl _) _).alloc (by simp) _
  have T0 := T.later B0
  obtain ⟨W0, hW0⟩ : ∃ W0, W0 = ((w.alloc (.cells #[.int .i64 y, .int .i64 m, .int .i64 d] 23)).alloc (.cells #[.int .i64 y', .int .i64 m', .int .i64 d'] 23)) := ⟨_, rfl⟩
  rw [← hW0] at L L' B0 T0
  have cG : ∀ W, Calls Tryd.prog 15 #[.agg #[.int .i64 y, .int .i64 m, .int .i64 d]] W fun e w' => e = .returned (.bool (good y m d)) ∧ Below W.heap.size W w' := fun W => R3.good_any y m d W
  have cG' : ∀ W, Calls Tryd.prog 15 #[.agg #[.int .i64 y', .int .i64 m', .int .i64 d']] W fun e w' => e = .returned (.bool (good y' m' d')) ∧ Below W.heap.size W w' := fun W => R3.good_any y' m' d' W
  rcases Bool.eq_false_or_eq_true (good y m d) with g | g
  · have g' : good y' m' d' = false := by
      rcases h with h | h
      · rw [g] at h; cases h
      · exact h
    rw [g] at cG
    rw [g'] at cG'
    clear h g g'
    go_enter Tryd.func6, Tryd.ntmps6
    go_wp2_with (first
      | (go_at_call 9; rw [← hW0]; refine (alive_any _ T0).mono ?_; rintro e w1 ⟨rfl, b1⟩; have L1 := L.on b1; have L1' := L'.on b1; have B1 := on B0 b1; obtain ⟨l1, p0, p1, p2, _, _, _⟩ := L1; clear L)
      | (go_at_call_of 15 (Value.int IntKind.i64 y); refine (cG _).mono ?_; rintro e w2 ⟨rfl, b2⟩; have L2 := L1'.on b2; have B2 := on B1 b2; obtain ⟨l2, q0, q1, q2, _, _, _⟩ := L2)
      | (go_at_call_of 15 (Value.int IntKind.i64 y'); refine (cG' _).mono ?_; rintro e w3 ⟨rfl, b3⟩; have B3 := on B2 b3))
    go_ret
    exact ⟨rfl, B3⟩
  · rw [g] at cG
    clear h g cG'
    go_enter Tryd.func6, Tryd.ntmps6
    go_wp2_with (first
      | (go_at_call 9; rw [← hW0]; refine (alive_any _ T0).mono ?_; rintro e w1 ⟨rfl, b1⟩; have L1 := L.on b1; have L1' := L'.on b1; have B1 := on B0 b1; obtain ⟨l1, p0, p1, p2, _, _, _⟩ := L1; clear L)
      | (go_at_call_of 15 (Value.int IntKind.i64 y); refine (cG _).mono ?_; rintro e w2 ⟨rfl, b2⟩; have L2 := L1'.on b2; have B2 := on B1 b2; obtain ⟨l2, q0, q1, q2, _, _, _⟩ := L2))
    go_ret
    exact ⟨rfl, B2⟩
set_option maxHeartbeats 4000000 in
set_option maxRecDepth 100000 in
theorem both_good (y m d y' m' d' : Int) (w : World) (T : Tab w) (g : good y m d = true) (g' : good y' m' d' = true) :
    Calls Tryd.prog 6 #[.agg #[.int .i64 y, .int .i64 m, .int .i64 d], .agg #[.int .i64 y', .int .i64 m', .int .i64 d']] w fun e w' => e = .returned (.bool true) ∧ Below w.heap.size w w' := by
  have L : Lies3 ((w.alloc (.cells #[.int .i64 y, .int .i64 m, .int .i64 d] 23)).alloc (.cells #[.int .i64 y', .int .i64 m', .int .i64 d'] 23)) w.heap.size (.int .i64 y) (.int .i64 m) (.int .i64 d) := (Lies3.new rfl).alloc _
  have L' : Lies3 ((w.alloc (.cells #[.int .i64 y, .int .i64 m, .int .i64 d] 23)).alloc (.cells #[.int .i64 y', .int .i64 m', .int .i64 d'] 23)) (w.heap.size + 1) (.int .i64 y') (.int .i64 m') (.int .i64 d') := Lies3.new (by simp)
  have B0 : Below w.heap.size w ((w.alloc (.cells #[.int .i64 y, .int .i64 m, .int .i64 d] 23)).alloc (.cells #[.int .i64 y', .int .i64 m', .int .i64 d'] 23)) := ((Below.refl _ _).alloc (Nat.le_refl _) _).alloc (by simp) _
  have T0 := T.later B0
  obtain ⟨W0, hW0⟩ : ∃ W0, W0 = ((w.alloc (.cells #[.int .i64 y, .int .i64 m, .int .i64 d] 23)).alloc (.cells #[.int .i64 y', .int .i64 m', .int .i64 d'] 23)) := ⟨_, rfl⟩
  rw [← hW0] at L L' B0 T0
  have cG : ∀ W, Calls Tryd.prog 15 #[.agg #[.int .i64 y, .int .i64 m, .int .i64 d]] W fun e w' => e = .returned (.bool true) ∧ Below W.heap.size W w' := fun W => by
    have := R3.good_any y m d W
    rwa [g] at this
  have cG' : ∀ W, Calls Tryd.prog 15 #[.agg #[.int .i64 y', .int .i64 m', .int .i64 d']] W fun e w' => e = .returned (.bool true) ∧ Below W.heap.size W w' := fun W => by
    have := R3.good_any y' m' d' W
    rwa [g'] at this
  have HG := hid g
  have HG' := hid g'
  clear g g'
  go_enter Tryd.func6, Tryd.ntmps6
  go_upto_region 5 with (first
    | (go_at_call 9; rw [← hW0]; refine (alive_any _ T0).mono ?_; rintro e w1 ⟨rfl, b1⟩; have L1 := L.on b1; have L1' := L'.on b1; have B1 := on B0 b1; have M1 := L1; obtain ⟨l1, p0, p1, p2, _, _, _⟩ := M1; clear L)
    | (go_at_call_of 15 (Value.int IntKind.i64 y); refine (cG _).mono ?_; rintro e w2 ⟨rfl, b2⟩; have L2 := L1.on b2; have L2' := L1'.on b2; have B2 := on B1 b2; have M2 := L2'; obtain ⟨l2, q0, q1, q2, _, _, _⟩ := M2; clear p0 p1 p2)
    | (go_at_call_of 15 (Value.int IntKind.i64 y'); refine (cG' _).mono ?_; rintro e w3 ⟨rfl, b3⟩; have L3 := L2.on b3; have L3' := L2'.on b3; have B3 := on B2 b3; have M3 := L3; have M3' := L3'; obtain ⟨l3, p0, p1, p2, _, _, _⟩ := M3; obtain ⟨l4, r0, r1, r2, _, _, _⟩ := M3'; clear q0 q1 q2))
  clear cG cG' L1 L1' L2 L2' B0 B1 B2 b1 b2 b3 L' hW0 T0
  go_cut [5] (fun s5 wx => s5 = .bool (lat y m d y' m' d') ∧ wx = w3)
  case first =>
    have fin : ∀ b : Bool, b = lat y m d y' m' d' → Value.bool b = Value.bool (lat y m d y' m' d') := fun b h => by rw [h]
    rcases Bool.eq_false_or_eq_true (decide (y' < y)) with a1 | a1
    · go_wp2
      go_meet
      exact ⟨fin _ (by unfold lat; simp at a1; simp; omega), rfl⟩
    · rcases Bool.eq_false_or_eq_true (y == y') with a2 | a2
      · rcases Bool.eq_false_or_eq_true (decide (m' < m)) with a3 | a3
        · go_wp2
          go_meet
          exact ⟨fin _ (by unfold lat; simp at a1 a2 a3; simp; omega), rfl⟩
        · rcases Bool.eq_false_or_eq_true (m == m') with a4 | a4
          · go_wp2
            go_meet
            exact ⟨fin _ (by unfold lat; simp at a1 a2 a3 a4; rw [decide_eq_decide]; omega), rfl⟩
          · go_wp2
            go_meet
            exact ⟨fin _ (by unfold lat; simp at a1 a2 a3 a4; simp; omega), rfl⟩
      · go_wp2
        go_meet
        exact ⟨fin _ (by unfold lat; simp at a1 a2; simp; omega), rfl⟩
  case rest =>
    obtain ⟨rfl, rfl⟩ := hcut
    have cN : ∀ W, Calls Tryd.prog 18 #[.agg #[.int .i64 y, .int .i64 m, .int .i64 d]] W fun e w' => e = .returned (.tuple #[.int .i64 (num y m d), .bool true]) ∧ Below W.heap.size W w' := fun W => number_yes y m d W HG.out
    have cN' : ∀ W, Calls Tryd.prog 18 #[.agg #[.int .i64 y', .int .i64 m', .int .i64 d']] W fun e w' => e = .returned (.tuple #[.int .i64 (num y' m' d'), .bool true]) ∧ Below W.heap.size W w' := fun W => number_yes y' m' d' W HG'.out
    have cX : ∀ W, Tab W → Calls Tryd.prog 16 #[.agg #[.int .i64 y, .int .i64 m, .int .i64 d]] W fun e w' => e = .returned (.string ⟨(txt y m d).toArray⟩) ∧ Below W.heap.size W w' := fun W T => text_yes y m d W HG.out T
    have cX' : ∀ W, Tab W → Calls Tryd.prog 16 #[.agg #[.int .i64 y', .int .i64 m', .int .i64 d']] W fun e w' => e = .returned (.string ⟨(txt y' m' d').toArray⟩) ∧ Below W.heap.size W w' := fun W T => text_yes y' m' d' W HG'.out T
    have hnum := lat_num HG.out HG'.out
    have htx := txt_gtr HG.out HG'.out
    have hinj := num_inj HG.out HG'.out
    obtain ⟨X, hX⟩ : ∃ X : ByteArray, X = ⟨(txt y m d).toArray⟩ := ⟨_, rfl⟩
    obtain ⟨X', hX'⟩ : ∃ X : ByteArray, X = ⟨(txt y' m' d').toArray⟩ := ⟨_, rfl⟩
    rw [← hX] at cX
    rw [← hX'] at cX'
    have tX : X.toList = txt y m d := by rw [Lib.toList_data, hX]
    have tX' : X'.toList = txt y' m' d' := by rw [Lib.toList_data, hX']
    rw [← tX, ← tX'] at htx
    obtain ⟨A, hA⟩ : ∃ A, A = num y m d := ⟨_, rfl⟩
    obtain ⟨B, hB⟩ : ∃ B, B = num y' m' d' := ⟨_, rfl⟩
    simp only [← hA] at cN hnum hinj
    simp only [← hB] at cN' hnum hinj
    have hbA := num_bound HG.out
    rw [← hA] at hbA
    obtain ⟨V, hV⟩ : ∃ V, V = lat y m d y' m' d' := ⟨_, rfl⟩
    rw [← hV] at hnum htx ⊢
    have heq : (A == B) = (y == y' && (m == m' && d == d')) := by
      rw [Bool.eq_iff_iff]
      simp only [beq_iff_eq, Bool.and_eq_true]
      constructor
      · intro h; exact hinj h
      · rintro ⟨rfl, rfl, rfl⟩; rw [hA, hB]
    have HA := hid hA
    clear hA hB hX hX' tX tX' hV hinj p0 p1 p2 r0 r1 r2 l1 l2
    have P3 := L3
    obtain ⟨_, p0, p1, p2, _, _, _⟩ := P3
    go_upto_region 8 with (first
      | (go_at_call_of 18 (Value.int IntKind.i64 y); refine (cN _).mono ?_; rintro e w4 ⟨rfl, b4⟩; have L4 := L3.on b4; have L4' := L3'.on b4; have B4 := on B3 b4; have P4 := L4'; obtain ⟨l4, q0, q1, q2, _, _, _⟩ := P4; clear p0 p1 p2)
      | (go_at_call_of 18 (Value.int IntKind.i64 y'); refine (cN' _).mono ?_; rintro e w5 ⟨rfl, b5⟩; have L5 := L4.on b5; have L5' := L4'.on b5; have B5 := on B4 b5; clear q0 q1 q2))
    clear L3 L3' L4 L4' B3 B4 b4 b5 cN cN'
    have T5 := T.later B5
    go_cut [87] (fun s87 wx => s87 = .bool false ∧ Lies3 wx w.heap.size (.int .i64 y) (.int .i64 m) (.int .i64 d) ∧ Below w.heap.size w wx)
    case first =>
      have k0 := cell_regrown L5.c0
      have k1 := cell_regrown L5.c1
      have k2 := cell_regrown L5.c2
      have k3 := cell_regrown L5'.c0
      have k4 := cell_regrown L5'.c1
      have k5 := cell_regrown L5'.c2
      have qX := fun b c => Calls.regrown_of (cX (grow (redrawn w5 b) c) (T5.later (below_regrown w5 b c)))
      have qX' := fun b c => Calls.regrown_of (cX' (grow (redrawn w5 b) c) (T5.later (below_regrown w5 b c)))
      clear cX cX' T
      have hsp : ((y == y') = false) ∨ ((y == y') = true ∧ (m == m') = false) ∨ ((y == y') = true ∧ (m == m') = true ∧ (d == d') = false) ∨ ((y == y') = true ∧ (m == m') = true ∧ (d == d') = true) := by
        cases (y == y') <;> cases (m == m') <;> cases (d == d') <;> simp
      rcases hsp with e1 | ⟨e1, e2⟩ | ⟨e1, e2, e3⟩ | ⟨e1, e2, e3⟩
      all_goals
        simp only [e1, Bool.false_and, Bool.true_and] at heq
      all_goals
        refine wp_region_quiet_below (by kernel_rfl) (by kernel_rfl) ?_
        repeat (go_big_quiet_step (first
          | (go_at_call_of 16 (Value.int IntKind.i64 y); exact qX _ _)
          | (go_at_call_of 16 (Value.int IntKind.i64 y'); exact qX' _ _)))
        refine wpQuiet_nil ?_
        intro _ hw'
        obtain ⟨⟨dq, osq⟩, hw''⟩ := hw'
        subst hw''
        go_wp2
        go_meet
        exact ⟨rfl, L5.on (below_regrown w5 dq osq), on B5 (below_regrown w5 dq osq)⟩
    case rest =>
      obtain ⟨rfl, L6, B6⟩ := hcut
      clear cX cX' T T5 L5 L5' B5 htx hnum heq l3 l4
      by_cases hlast : A + 1 < 3652059
      · rcases next_day HG.out (by rw [← HA.out]; exact hlast) with ⟨g1, e1⟩ | ⟨hd, y1, m1, g1, e1⟩
        · have cO : ∀ W, Calls Tryd.prog 20 #[.int .i64 (A + 1)] W fun e w' => e = .returned (.tuple #[.agg #[.int .i64 y, .int .i64 m, .int .i64 (d + 1)], .bool true]) ∧ Below W.heap.size W w' := fun W => by
            have := of_at y m (d + 1) W g1
            rw [e1, ← HA.out] at this
            exact this
          have hdb : 1 ≤ d ∧ d ≤ 99 := by
            obtain ⟨_, _, _, _, a5, _⟩ := good_iff.1 HG.out
            have := good_small HG.out
            omega
          clear g1 e1
          go_upto_region 13 with (go_at_call 20; refine (cO _).mono ?_; rintro e w7 ⟨rfl, b7⟩)
          have L7 := (L6.on b7).alloc (.cells #[.int .i64 y, .int .i64 m, .int .i64 (d + 1)] 23)
          have N7 : Lies3 (w7.alloc (.cells #[.int .i64 y, .int .i64 m, .int .i64 (d + 1)] 23)) w7.heap.size (.int .i64 y) (.int .i64 m) (.int .i64 (d + 1)) := Lies3.new rfl
          have B7 := (on B6 b7)
          have B8 := B7.alloc B7.size (.cells #[.int .i64 y, .int .i64 m, .int .i64 (d + 1)] 23)
          have k0 := cell_regrown L7.c0
          have k1 := cell_regrown L7.c1
          have k2 := cell_regrown L7.c2
          have k3 := cell_regrown N7.c0
          have k4 := cell_regrown N7.c1
          have k5 := cell_regrown N7.c2
          clear L6 cO
          refine wp_region_quiet_below (by kernel_rfl) (by kernel_rfl) ?_
          repeat (go_big_quiet_step (fail))
          refine wpQuiet_nil ?_
          intro _ hw'
          obtain ⟨⟨dq, osq⟩, hw''⟩ := hw'
          subst hw''
          go_wp2
          go_ret
          exact ⟨rfl, on B8 (below_regrown _ dq osq)⟩
        · have cO : ∀ W, Calls Tryd.prog 20 #[.int .i64 (A + 1)] W fun e w' => e = .returned (.tuple #[.agg #[.int .i64 y1, .int .i64 m1, .int .i64 1], .bool true]) ∧ Below W.heap.size W w' := fun W => by
            have := of_at y1 m1 1 W g1
            rw [e1, ← HA.out] at this
            exact this
          have cD : ∀ W, Calls Tryd.prog 13 #[.int .i64 y, .int .i64 m] W fun e w' => e = .returned (.int .i64 d) ∧ Below W.heap.size W w' := fun W => by
            have := R3.days_any y m W
            rwa [← hd] at this
          have hdb : 1 ≤ d ∧ d ≤ 99 := by
            obtain ⟨_, _, _, _, a5, _⟩ := good_iff.1 HG.out
            have := good_small HG.out
            omega
          have hne : ((1 : Int) == d + 1) = false := by simp; omega
          clear g1 e1 hd
          go_upto_region 13 with (go_at_call 20; refine (cO _).mono ?_; rintro e w7 ⟨rfl, b7⟩)
          have L7 := (L6.on b7).alloc (.cells #[.int .i64 y1, .int .i64 m1, .int .i64 1] 23)
          have N7 : Lies3 (w7.alloc (.cells #[.int .i64 y1, .int .i64 m1, .int .i64 1] 23)) w7.heap.size (.int .i64 y1) (.int .i64 m1) (.int .i64 1) := Lies3.new rfl
          have B7 := (on B6 b7)
          have B8 := B7.alloc B7.size (.cells #[.int .i64 y1, .int .i64 m1, .int .i64 1] 23)
          have k0 := cell_regrown L7.c0
          have k1 := cell_regrown L7.c1
          have k2 := cell_regrown L7.c2
          have k3 := cell_regrown N7.c0
          have k4 := cell_regrown N7.c1
          have k5 := cell_regrown N7.c2
          have qD := fun a b c => Calls.regrown_of (cD (grow (redrawn (w7.alloc a) b) c))
          clear L6 cO cD
          refine wp_region_quiet_below (by kernel_rfl) (by kernel_rfl) ?_
          repeat (go_big_quiet_step ((go_at_call 13; exact qD _ _ _)))
          refine wpQuiet_nil ?_
          intro _ hw'
          obtain ⟨⟨dq, osq⟩, hw''⟩ := hw'
          subst hw''
          go_wp2
          go_ret
          exact ⟨rfl, on B8 (below_regrown _ dq osq)⟩
      · have gl : good 9999 12 31 = true := by decide
        have el : num 9999 12 31 = 3652058 := by decide
        obtain ⟨rfl, rfl, rfl⟩ := num_inj HG.out gl (by rw [el, ← HA.out]; omega)
        have cO : ∀ W, Calls Tryd.prog 20 #[.int .i64 (A + 1)] W fun e w' => e = .returned (.tuple #[.agg #[.int .i64 0, .int .i64 0, .int .i64 0], .bool false]) ∧ Below W.heap.size W w' := fun W => of_no (A + 1) W (by omega)
        go_wp2_with (go_at_call 20; refine (cO _).mono ?_; rintro e w7 ⟨rfl, b7⟩; have L7 := L6.on b7; have B7 := on B6 b7; obtain ⟨l7, p0, p1, p2, _, _, _⟩ := L7)
        go_ret
        exact ⟨ret_b (by simp), B7.alloc B7.size _⟩
theorem order_walk (y m d y' m' d' : Int) (w : World) (T : Tab w) :
    Calls Tryd.prog 6 #[.agg #[.int .i64 y, .int .i64 m, .int .i64 d], .agg #[.int .i64 y', .int .i64 m', .int .i64 d']] w fun e w' => e = .returned (.bool true) ∧ Below w.heap.size w w' := by
  cases g : good y m d
  · exact not_good y m d y' m' d' w T (.inl g)
  · cases g' : good y' m' d'
    · exact not_good y m d y' m' d' w T (.inr g')
    · exact both_good y m d y' m' d' w T g g'
end Go.Proofs.YtagaoalafmdnbaaDoor.L03

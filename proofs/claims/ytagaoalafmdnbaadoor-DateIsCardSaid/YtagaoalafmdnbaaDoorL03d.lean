/- The laws of layer 3: DateIs. -/
import Derived.Test.YtagaoalafmdnbaaDoorL03c
import Derived.Test.YtagaoalafmdnbaaDoorRef3e
namespace Go.Proofs.YtagaoalafmdnbaaDoor.L03
open Go.RowKit Go.Sort P Dt

/-- Both texts of a day. -/
theorem text_both (y m d : Int) : ∃ X : ByteArray, X.size ≤ 10 ∧ (good y m d = true → X = ⟨(txt y m d).toArray⟩) ∧
    (∀ W, Tab W → Calls Tryd.prog 16 #[.agg #[.int .i64 y, .int .i64 m, .int .i64 d]] W fun e w' => e = .returned (.string X) ∧ Below W.heap.size W w') ∧
    (∀ W, Calls Tryd.prog 17 #[.agg #[.int .i64 y, .int .i64 m, .int .i64 d]] W fun e w' => e = .returned (.string X) ∧ Below W.heap.size W w') := by
  cases g : good y m d
  · exact ⟨⟨#[]⟩, by decide, (fun k => by cases k), fun W _ => text_no y m d W g, fun W => R3.text_no y m d W g⟩
  · exact ⟨_, by rw [ba_size, txt_length]; exact Nat.le_refl _, fun _ => rfl, fun W T => text_yes y m d W g T, fun W => R3.text_yes y m d W g⟩
set_option maxHeartbeats 4000000 in
theorem is_walk (y m d : Int) (w : World) (T : Tab w) : Calls Tryd.prog 3 #[.agg #[.int .i64 y, .int .i64 m, .int .i64 d]] w fun e w' => e = .returned (.bool true) ∧ Below w.heap.size w w' := by
  obtain ⟨X, _, _, cX, cX'⟩ := text_both y m d
  have T0 : Tab (w.alloc (.cells #[.int .i64 y, .int .i64 m, .int .i64 d] 23)) := T.later ((Below.refl _ _).alloc (Nat.le_refl _) _)
  have cL : ∀ W, Calls Tryd.prog 10 #[.int .i64 y] W fun e w' => e = .returned (.bool (leap y)) ∧ Below W.heap.size W w' := fun W => (Dt.leap_any y W).mono fun _ _ ⟨a, b⟩ => ⟨a, by rw [b]; exact Below.refl _ _⟩
  have cL' : ∀ W, Calls Tryd.prog 11 #[.int .i64 y] W fun e w' => e = .returned (.bool (leap y)) ∧ Below W.heap.size W w' := fun W => (R3.leap_any y W).mono fun _ _ ⟨a, b⟩ => ⟨a, by rw [b]; exact Below.refl _ _⟩
  have cD : ∀ W, Calls Tryd.prog 12 #[.int .i64 y, .int .i64 m] W fun e w' => e = .returned (.int .i64 (days y m)) ∧ Below W.heap.size W w' := fun W => (Dt.days_any y m W).mono fun _ _ ⟨a, b⟩ => ⟨a, by rw [b]; exact Below.refl _ _⟩
  have cD' : ∀ W, Calls Tryd.prog 13 #[.int .i64 y, .int .i64 m] W fun e w' => e = .returned (.int .i64 (days y m)) ∧ Below W.heap.size W w' := fun W => R3.days_any y m W
  have cG : ∀ W, Calls Tryd.prog 14 #[.agg #[.int .i64 y, .int .i64 m, .int .i64 d]] W fun e w' => e = .returned (.bool (good y m d)) ∧ Below W.heap.size W w' := fun W => Dt.good_any y m d W
  have cG' : ∀ W, Calls Tryd.prog 15 #[.agg #[.int .i64 y, .int .i64 m, .int .i64 d]] W fun e w' => e = .returned (.bool (good y m d)) ∧ Below W.heap.size W w' := fun W => R3.good_any y m d W
  obtain ⟨N, ok, hok, cN, cN'⟩ : ∃ (N : Int) (ok : Bool), (good y m d = ok ∧ (ok = false → N = 0)) ∧
      (∀ W, Calls Tryd.prog 18 #[.agg #[.int .i64 y, .int .i64 m, .int .i64 d]] W fun e w' => e = .returned (.tuple #[.int .i64 N, .bool ok]) ∧ Below W.heap.size W w') ∧
      (ok = true → ∀ W, Calls Tryd.prog 19 #[.agg #[.int .i64 y, .int .i64 m, .int .i64 d]] W fun e w' => e = .returned (.int .i64 N) ∧ Below W.heap.size W w') := by
    cases g : good y m d
    · exact ⟨0, false, ⟨rfl, fun _ => rfl⟩, fun W => number_no y m d W g, fun k => by cases k⟩
    · exact ⟨num y m d, true, ⟨rfl, (fun k => by cases k)⟩, fun W => number_yes y m d W g, fun _ W => R3.number_any y m d W g⟩
  rw [hok.1] at cG cG'
  obtain ⟨_, hN⟩ := hok
  obtain ⟨L, hL⟩ : ∃ L, L = leap y := ⟨_, rfl⟩
  rw [← hL] at cL cL'
  obtain ⟨D, hD⟩ : ∃ D, D = days y m := ⟨_, rfl⟩
  rw [← hD] at cD cD'
  clear hL hD
  go_enter Tryd.func3, Tryd.ntmps3
  go_wp2_with (go_at_call 9; refine (alive_any _ T0).mono ?_; rintro e w1 ⟨rfl, b1⟩; have L1 := Lies3.later b1 rfl; have B1 := (box3 b1).2.2.2.2; have L1' := L1; obtain ⟨l1, c0, c1, c2, _, _, _⟩ := L1'; clear b1)
  have T1 := T.later B1
  have k0 := cell_regrown c0
  have k1 := cell_regrown c1
  have k2 := cell_regrown c2
  have qL := fun b c => Calls.regrown_of (cL (grow (redrawn w1 b) c))
  have qL' := fun b c => Calls.regrown_of (cL' (grow (redrawn w1 b) c))
  have qD := fun b c => Calls.regrown_of (cD (grow (redrawn w1 b) c))
  have qD' := fun b c => Calls.regrown_of (cD' (grow (redrawn w1 b) c))
  have qG := fun b c => Calls.regrown_of (cG (grow (redrawn w1 b) c))
  have qG' := fun b c => Calls.regrown_of (cG' (grow (redrawn w1 b) c))
  have qX := fun b c => Calls.regrown_of (cX (grow (redrawn w1 b) c) (T1.later (below_regrown w1 b c)))
  have qX' := fun b c => Calls.regrown_of (cX' (grow (redrawn w1 b) c))
  clear cL cL' cD cD' cG cX cX' T T0 T1
  refine wp_region_quiet_below (by kernel_rfl) (by kernel_rfl) ?_
  repeat (go_big_quiet_step (first
    | (go_at_call 10; exact qL _ _)
    | (go_at_call 11; exact qL' _ _)
    | (go_at_call 12; exact qD _ _)
    | (go_at_call 13; exact qD' _ _)
    | (go_at_call 14; exact qG _ _)
    | (go_at_call 15; exact qG' _ _)
    | (go_at_call 16; exact qX _ _)
    | (go_at_call 17; exact qX' _ _)))
  refine wpQuiet_nil ?_
  intro _ hw'
  obtain ⟨⟨dq, osq⟩, hw''⟩ := hw'
  subst hw''
  have b2 := below_regrown w1 dq osq
  have B2 := on B1 b2
  have L2 := L1.on b2
  clear qL qL' qD qD' qG qG' qX qX'
  cases ok
  · obtain rfl := hN rfl
    go_wp2_with (first
      | (go_at_call 18; refine (cN _).mono ?_; rintro e w3 ⟨rfl, b3⟩; have L3 := L2.on b3; have B3 := on B2 b3; have L3' := L3; obtain ⟨l3, p0, p1, p2, _, _, _⟩ := L3'; clear b3)
      | (go_at_call 15; refine (cG' _).mono ?_; rintro e w4 ⟨rfl, b4⟩; have B4 := on B3 b4))
    go_ret
    exact ⟨rfl, B4⟩
  · have cN'' := cN' rfl
    go_wp2_with (first
      | (go_at_call 18; refine (cN _).mono ?_; rintro e w3 ⟨rfl, b3⟩; have L3 := L2.on b3; have B3 := on B2 b3; have L3' := L3; obtain ⟨l3, p0, p1, p2, _, _, _⟩ := L3'; clear b3)
      | (go_at_call 15; refine (cG' _).mono ?_; rintro e w4 ⟨rfl, b4⟩; have L4 := L3.on b4; have B4 := on B3 b4; have L4' := L4; obtain ⟨l4, q0, q1, q2, _, _, _⟩ := L4'; clear b4)
      | (go_at_call 19; refine (cN'' _).mono ?_; rintro e w5 ⟨rfl, b5⟩; have B5 := on B4 b5))
    go_ret
    exact ⟨ret_b (by simp), B5⟩
end Go.Proofs.YtagaoalafmdnbaaDoor.L03

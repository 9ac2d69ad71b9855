/- Package tree, walked: a meter, a fee without its place; whether two are one. -/
import Derived.Test.YtfeccjcdpiopaaaTree
import Derived.Test.YtfeccjcdpiopaaaTail
import Derived.Deep.RegionHeldLaw
import Derived.Deep.RegionHeld3
import Derived.BigQuiet
import Derived.Lib.QuietBelow
import Derived.WalkKit
import Derived.ProofKit
namespace Go.Proofs.Ytfeccjcdpiopaaa.Te
open Go.RowKit Go.Sort P Mm Tl

theorem bel_alloc2 (w : World) (x y : Obj) : Below w.heap.size w ((w.alloc x).alloc y) := bel_on (bel_alloc w x) (bel_alloc _ y)
set_option maxHeartbeats 2000000 in
set_option maxRecDepth 100000 in
theorem plainMeter_any (m : Meter) (w : World) :
    Calls Try.prog 23 #[.agg (meterC m).toArray] w fun e w' => e = .returned (.agg (meterC { m with line := 0, col := 0 }).toArray) ∧ Below w.heap.size w w' := by
  unfold meterC
  go_enter Try.func23, Try.ntmps23
  go_wp2
  refine bodyPost_ret (v := .agg #[.string m.name, .string m.unit, .int .i64 m.max, .int .i64 0, .int .i64 0]) (by simp only [results, Try.results23]; go_simp) rfl ⟨rfl, bel_alloc2 ..⟩
set_option maxHeartbeats 2000000 in
set_option maxRecDepth 100000 in
theorem plainFee_any (m : Fee) (w : World) :
    Calls Try.prog 25 #[.agg (feeC m).toArray] w fun e w' => e = .returned (.agg (feeC { m with line := 0, col := 0 }).toArray) ∧ Below w.heap.size w w' := by
  unfold feeC
  go_enter Try.func25, Try.ntmps25
  go_wp2
  refine bodyPost_ret (v := .agg #[.int .i64 m.amount, .bool m.win.has, .int .i64 m.win.a.y, .int .i64 m.win.a.m, .int .i64 m.win.a.d, .int .i64 m.win.b.y, .int .i64 m.win.b.m, .int .i64 m.win.b.d, .int .i64 0, .int .i64 0]) (by simp only [results, Try.results25]; go_simp) rfl ⟨rfl, bel_alloc2 ..⟩
set_option maxHeartbeats 2000000 in
set_option maxRecDepth 100000 in
theorem equalTier_any (m n : Tier) (w : World) :
    Calls Try.prog 47 #[.agg (tierC m).toArray, .agg (tierC n).toArray] w fun e w' => e = .returned (.bool (decide (m = n))) ∧ Below w.heap.size w w' := by
  unfold tierC
  go_enter Try.func47, Try.ntmps47
  obtain ⟨a0, a1⟩ := m
  obtain ⟨b0, b1⟩ := n
  go_wp2
  all_goals
    go_ret
    refine ⟨?_, bel_alloc2 ..⟩
    show Ending.returned (Value.bool _) = _
    simp_all
set_option maxHeartbeats 2000000 in
set_option maxRecDepth 100000 in
theorem equalAdj_any (m n : Adj) (w : World) :
    Calls Try.prog 49 #[.agg (adjC m).toArray, .agg (adjC n).toArray] w fun e w' => e = .returned (.bool (decide (m = n))) ∧ Below w.heap.size w w' := by
  unfold adjC
  go_enter Try.func49, Try.ntmps49
  obtain ⟨a0, a1, a2⟩ := m
  obtain ⟨b0, b1, b2⟩ := n
  go_wp2
  all_goals
    go_ret
    refine ⟨?_, bel_alloc2 ..⟩
    show Ending.returned (Value.bool _) = _
    simp_all
/-- Whether two are one, but for places. -/
def sameM (m n : Meter) : Bool := (m.name.toList == n.name.toList) && (m.unit.toList == n.unit.toList) && (m.max == n.max)
set_option maxHeartbeats 4000000 in
set_option maxRecDepth 100000 in
theorem sameM_any (m n : Meter) (w : World) :
    Calls Try.prog 29 #[.agg (meterC m).toArray, .agg (meterC n).toArray] w fun e w' => e = .returned (.bool (sameM m n)) ∧ Below w.heap.size w w' := by
  obtain ⟨w1, hw1⟩ : ∃ w1, w1 = (w.alloc (.cells (meterC m).toArray 38)).alloc (.cells (meterC n).toArray 38) := ⟨_, rfl⟩
  have b1 : Below w.heap.size w w1 := by rw [hw1]; exact bel_alloc2 ..
  have cM := fun W => plainMeter_any m W
  have cN := fun W => plainMeter_any n W
  obtain ⟨R, hR⟩ : ∃ R, R = sameM m n := ⟨_, rfl⟩
  rw [← hR]
  have FR := hid hR
  clear hR
  have HW1 := hid hw1
  unfold meterC at hw1 HW1 cM cN ⊢
  have m0 := cell_regrown (show w1.cell? ⟨w.heap.size, 0, none⟩ = some (.string m.name) by rw [hw1]; simp)
  have m1 := cell_regrown (show w1.cell? ⟨w.heap.size, 1, none⟩ = some (.string m.unit) by rw [hw1]; simp)
  have m2 := cell_regrown (show w1.cell? ⟨w.heap.size, 2, none⟩ = some (.int .i64 m.max) by rw [hw1]; simp)
  have m3 := cell_regrown (show w1.cell? ⟨w.heap.size, 3, none⟩ = some (.int .i64 m.line) by rw [hw1]; simp)
  have m4 := cell_regrown (show w1.cell? ⟨w.heap.size, 4, none⟩ = some (.int .i64 m.col) by rw [hw1]; simp)
  have n0 := cell_regrown (show w1.cell? ⟨w.heap.size + 1, 0, none⟩ = some (.string n.name) by rw [hw1]; simp)
  have n1 := cell_regrown (show w1.cell? ⟨w.heap.size + 1, 1, none⟩ = some (.string n.unit) by rw [hw1]; simp)
  have n2 := cell_regrown (show w1.cell? ⟨w.heap.size + 1, 2, none⟩ = some (.int .i64 n.max) by rw [hw1]; simp)
  have n3 := cell_regrown (show w1.cell? ⟨w.heap.size + 1, 3, none⟩ = some (.int .i64 n.line) by rw [hw1]; simp)
  have n4 := cell_regrown (show w1.cell? ⟨w.heap.size + 1, 4, none⟩ = some (.int .i64 n.col) by rw [hw1]; simp)
  have qM := fun d os => Calls.regrown_of (cM (grow (redrawn w1 d) os))
  have qN := fun d os => Calls.regrown_of (cN (grow (redrawn w1 d) os))
  have HB := hid b1
  clear hw1 cM cN b1
  go_enter Try.func29, Try.ntmps29
  go_wp2_with fail
  rw [← HW1.out]
  rcases Bool.eq_false_or_eq_true (m.name.toList == n.name.toList) with h0 | h0
  · rcases Bool.eq_false_or_eq_true (m.unit.toList == n.unit.toList) with h1 | h1
    · rcases Bool.eq_false_or_eq_true (m.max == n.max) with h2 | h2
      · refine wp_region_quiet_below (by kernel_rfl) (by kernel_rfl) ?_
        repeat (go_big_quiet_step (first | (go_at_call_of 23 (Value.agg #[.string m.name, .string m.unit, .int .i64 m.max, .int .i64 m.line, .int .i64 m.col]); exact qM _ _) | (go_at_call 23; exact qN _ _)))
        refine wpQuiet_nil ?_
        intro _ hw'
        obtain ⟨⟨dq, osq⟩, hw''⟩ := hw'
        subst hw''
        go_wp2
        go_ret
        refine ⟨?_, HB.out.trans ((below_regrown w1 dq osq).mono HB.out.size)⟩
        rw [FR.out]
        unfold sameM
        simp [h0, h1, h2]
      · refine wp_region_quiet_below (by kernel_rfl) (by kernel_rfl) ?_
        repeat (go_big_quiet_step (first | (go_at_call_of 23 (Value.agg #[.string m.name, .string m.unit, .int .i64 m.max, .int .i64 m.line, .int .i64 m.col]); exact qM _ _) | (go_at_call 23; exact qN _ _)))
        refine wpQuiet_nil ?_
        intro _ hw'
        obtain ⟨⟨dq, osq⟩, hw''⟩ := hw'
        subst hw''
        go_wp2
        go_ret
        refine ⟨?_, HB.out.trans ((below_regrown w1 dq osq).mono HB.out.size)⟩
        rw [FR.out]
        unfold sameM
        simp [h0, h1, h2]
    · refine wp_region_quiet_below (by kernel_rfl) (by kernel_rfl) ?_
      repeat (go_big_quiet_step (first | (go_at_call_of 23 (Value.agg #[.string m.name, .string m.unit, .int .i64 m.max, .int .i64 m.line, .int .i64 m.col]); exact qM _ _) | (go_at_call 23; exact qN _ _)))
      refine wpQuiet_nil ?_
      intro _ hw'
      obtain ⟨⟨dq, osq⟩, hw''⟩ := hw'
      subst hw''
      go_wp2
      go_ret
      refine ⟨?_, HB.out.trans ((below_regrown w1 dq osq).mono HB.out.size)⟩
      rw [FR.out]
      unfold sameM
      simp [h0, h1]
  · refine wp_region_quiet_below (by kernel_rfl) (by kernel_rfl) ?_
    repeat (go_big_quiet_step (first | (go_at_call_of 23 (Value.agg #[.string m.name, .string m.unit, .int .i64 m.max, .int .i64 m.line, .int .i64 m.col]); exact qM _ _) | (go_at_call 23; exact qN _ _)))
    refine wpQuiet_nil ?_
    intro _ hw'
    obtain ⟨⟨dq, osq⟩, hw''⟩ := hw'
    subst hw''
    go_wp2
    go_ret
    refine ⟨?_, HB.out.trans ((below_regrown w1 dq osq).mono HB.out.size)⟩
    rw [FR.out]
    unfold sameM
    simp [h0]
/-- Whether two are one, but for places. -/
def sameF (m n : Fee) : Bool := (m.amount == n.amount) && (m.win.has == n.win.has) && (m.win.a.y == n.win.a.y) && (m.win.a.m == n.win.a.m) && (m.win.a.d == n.win.a.d) && (m.win.b.y == n.win.b.y) && (m.win.b.m == n.win.b.m) && (m.win.b.d == n.win.b.d)
set_option maxHeartbeats 4000000 in
set_option maxRecDepth 100000 in
theorem sameF_any (m n : Fee) (w : World) :
    Calls Try.prog 31 #[.agg (feeC m).toArray, .agg (feeC n).toArray] w fun e w' => e = .returned (.bool (sameF m n)) ∧ Below w.heap.size w w' := by
  obtain ⟨w1, hw1⟩ : ∃ w1, w1 = (w.alloc (.cells (feeC m).toArray 42)).alloc (.cells (feeC n).toArray 42) := ⟨_, rfl⟩
  have b1 : Below w.heap.size w w1 := by rw [hw1]; exact bel_alloc2 ..
  have cM := fun W => plainFee_any m W
  have cN := fun W => plainFee_any n W
  obtain ⟨R, hR⟩ : ∃ R, R = sameF m n := ⟨_, rfl⟩
  rw [← hR]
  have FR := hid hR
  clear hR
  have HW1 := hid hw1
  unfold feeC at hw1 HW1 cM cN ⊢
  have m0 := cell_regrown (show w1.cell? ⟨w.heap.size, 0, none⟩ = some (.int .i64 m.amount) by rw [hw1]; simp)
  have m1 := cell_regrown (show w1.cell? ⟨w.heap.size, 1, none⟩ = some (.bool m.win.has) by rw [hw1]; simp)
  have m2 := cell_regrown (show w1.cell? ⟨w.heap.size, 2, none⟩ = some (.int .i64 m.win.a.y) by rw [hw1]; simp)
  have m3 := cell_regrown (show w1.cell? ⟨w.heap.size, 3, none⟩ = some (.int .i64 m.win.a.m) by rw [hw1]; simp)
  have m4 := cell_regrown (show w1.cell? ⟨w.heap.size, 4, none⟩ = some (.int .i64 m.win.a.d) by rw [hw1]; simp)
  have m5 := cell_regrown (show w1.cell? ⟨w.heap.size, 5, none⟩ = some (.int .i64 m.win.b.y) by rw [hw1]; simp)
  have m6 := cell_regrown (show w1.cell? ⟨w.heap.size, 6, none⟩ = some (.int .i64 m.win.b.m) by rw [hw1]; simp)
  have m7 := cell_regrown (show w1.cell? ⟨w.heap.size, 7, none⟩ = some (.int .i64 m.win.b.d) by rw [hw1]; simp)
  have m8 := cell_regrown (show w1.cell? ⟨w.heap.size, 8, none⟩ = some (.int .i64 m.line) by rw [hw1]; simp)
  have m9 := cell_regrown (show w1.cell? ⟨w.heap.size, 9, none⟩ = some (.int .i64 m.col) by rw [hw1]; simp)
  have n0 := cell_regrown (show w1.cell? ⟨w.heap.size + 1, 0, none⟩ = some (.int .i64 n.amount) by rw [hw1]; simp)
  have n1 := cell_regrown (show w1.cell? ⟨w.heap.size + 1, 1, none⟩ = some (.bool n.win.has) by rw [hw1]; simp)
  have n2 := cell_regrown (show w1.cell? ⟨w.heap.size + 1, 2, none⟩ = some (.int .i64 n.win.a.y) by rw [hw1]; simp)
  have n3 := cell_regrown (show w1.cell? ⟨w.heap.size + 1, 3, none⟩ = some (.int .i64 n.win.a.m) by rw [hw1]; simp)
  have n4 := cell_regrown (show w1.cell? ⟨w.heap.size + 1, 4, none⟩ = some (.int .i64 n.win.a.d) by rw [hw1]; simp)
  have n5 := cell_regrown (show w1.cell? ⟨w.heap.size + 1, 5, none⟩ = some (.int .i64 n.win.b.y) by rw [hw1]; simp)
  have n6 := cell_regrown (show w1.cell? ⟨w.heap.size + 1, 6, none⟩ = some (.int .i64 n.win.b.m) by rw [hw1]; simp)
  have n7 := cell_regrown (show w1.cell? ⟨w.heap.size + 1, 7, none⟩ = some (.int .i64 n.win.b.d) by rw [hw1]; simp)
  have n8 := cell_regrown (show w1.cell? ⟨w.heap.size + 1, 8, none⟩ = some (.int .i64 n.line) by rw [hw1]; simp)
  have n9 := cell_regrown (show w1.cell? ⟨w.heap.size + 1, 9, none⟩ = some (.int .i64 n.col) by rw [hw1]; simp)
  have qM := fun d os => Calls.regrown_of (cM (grow (redrawn w1 d) os))
  have qN := fun d os => Calls.regrown_of (cN (grow (redrawn w1 d) os))
  have HB := hid b1
  clear hw1 cM cN b1
  go_enter Try.func31, Try.ntmps31
  go_wp2_with fail
  rw [← HW1.out]
  rcases Bool.eq_false_or_eq_true (m.amount == n.amount) with h0 | h0
  · rcases Bool.eq_false_or_eq_true (m.win.has == n.win.has) with h1 | h1
    · rcases Bool.eq_false_or_eq_true (m.win.a.y == n.win.a.y) with h2 | h2
      · rcases Bool.eq_false_or_eq_true (m.win.a.m == n.win.a.m) with h3 | h3
        · rcases Bool.eq_false_or_eq_true (m.win.a.d == n.win.a.d) with h4 | h4
          · rcases Bool.eq_false_or_eq_true (m.win.b.y == n.win.b.y) with h5 | h5
            · rcases Bool.eq_false_or_eq_true (m.win.b.m == n.win.b.m) with h6 | h6
              · rcases Bool.eq_false_or_eq_true (m.win.b.d == n.win.b.d) with h7 | h7
                · refine wp_region_quiet_below (by kernel_rfl) (by kernel_rfl) ?_
                  repeat (go_big_quiet_step (first | (go_at_call_of 25 (Value.agg #[.int .i64 m.amount, .bool m.win.has, .int .i64 m.win.a.y, .int .i64 m.win.a.m, .int .i64 m.win.a.d, .int .i64 m.win.b.y, .int .i64 m.win.b.m, .int .i64 m.win.b.d, .int .i64 m.line, .int .i64 m.col]); exact qM _ _) | (go_at_call 25; exact qN _ _)))
                  refine wpQuiet_nil ?_
                  intro _ hw'
                  obtain ⟨⟨dq, osq⟩, hw''⟩ := hw'
                  subst hw''
                  go_wp2
                  go_ret
                  refine ⟨?_, HB.out.trans ((below_regrown w1 dq osq).mono HB.out.size)⟩
                  rw [FR.out]
                  unfold sameF
                  simp [h0, h1, h2, h3, h4, h5, h6, h7]
                · refine wp_region_quiet_below (by kernel_rfl) (by kernel_rfl) ?_
                  repeat (go_big_quiet_step (first | (go_at_call_of 25 (Value.agg #[.int .i64 m.amount, .bool m.win.has, .int .i64 m.win.a.y, .int .i64 m.win.a.m, .int .i64 m.win.a.d, .int .i64 m.win.b.y, .int .i64 m.win.b.m, .int .i64 m.win.b.d, .int .i64 m.line, .int .i64 m.col]); exact qM _ _) | (go_at_call 25; exact qN _ _)))
                  refine wpQuiet_nil ?_
                  intro _ hw'
                  obtain ⟨⟨dq, osq⟩, hw''⟩ := hw'
                  subst hw''
                  go_wp2
                  go_ret
                  refine ⟨?_, HB.out.trans ((below_regrown w1 dq osq).mono HB.out.size)⟩
                  rw [FR.out]
                  unfold sameF
                  simp [h0, h1, h2, h3, h4, h5, h6, h7]
              · refine wp_region_quiet_below (by kernel_rfl) (by kernel_rfl) ?_
                repeat (go_big_quiet_step (first | (go_at_call_of 25 (Value.agg #[.int .i64 m.amount, .bool m.win.has, .int .i64 m.win.a.y, .int .i64 m.win.a.m, .int .i64 m.win.a.d, .int .i64 m.win.b.y, .int .i64 m.win.b.m, .int .i64 m.win.b.d, .int .i64 m.line, .int .i64 m.col]); exact qM _ _) | (go_at_call 25; exact qN _ _)))
                refine wpQuiet_nil ?_
                intro _ hw'
                obtain ⟨⟨dq, osq⟩, hw''⟩ := hw'
                subst hw''
                go_wp2
                go_ret
                refine ⟨?_, HB.out.trans ((below_regrown w1 dq osq).mono HB.out.size)⟩
                rw [FR.out]
                unfold sameF
                simp [h0, h1, h2, h3, h4, h5, h6]
            · refine wp_region_quiet_below (by kernel_rfl) (by kernel_rfl) ?_
              repeat (go_big_quiet_step (first | (go_at_call_of 25 (Value.agg #[.int .i64 m.amount, .bool m.win.has, .int .i64 m.win.a.y, .int .i64 m.win.a.m, .int .i64 m.win.a.d, .int .i64 m.win.b.y, .int .i64 m.win.b.m, .int .i64 m.win.b.d, .int .i64 m.line, .int .i64 m.col]); exact qM _ _) | (go_at_call 25; exact qN _ _)))
              refine wpQuiet_nil ?_
              intro _ hw'
              obtain ⟨⟨dq, osq⟩, hw''⟩ := hw'
              subst hw''
              go_wp2
              go_ret
              refine ⟨?_, HB.out.trans ((below_regrown w1 dq osq).mono HB.out.size)⟩
              rw [FR.out]
              unfold sameF
              simp [h0, h1, h2, h3, h4, h5]
          · refine wp_region_quiet_below (by kernel_rfl) (by kernel_rfl) ?_
            repeat (go_big_quiet_step (first | (go_at_call_of 25 (Value.agg #[.int .i64 m.amount, .bool m.win.has, .int .i64 m.win.a.y, .int .i64 m.win.a.m, .int .i64 m.win.a.d, .int .i64 m.win.b.y, .int .i64 m.win.b.m, .int .i64 m.win.b.d, .int .i64 m.line, .int .i64 m.col]); exact qM _ _) | (go_at_call 25; exact qN _ _)))
            refine wpQuiet_nil ?_
            intro _ hw'
            obtain ⟨⟨dq, osq⟩, hw''⟩ := hw'
            subst hw''
            go_wp2
            go_ret
            refine ⟨?_, HB.out.trans ((below_regrown w1 dq osq).mono HB.out.size)⟩
            rw [FR.out]
            unfold sameF
            simp [h0, h1, h2, h3, h4]
        · refine wp_region_quiet_below (by kernel_rfl) (by kernel_rfl) ?_
          repeat (go_big_quiet_step (first | (go_at_call_of 25 (Value.agg #[.int .i64 m.amount, .bool m.win.has, .int .i64 m.win.a.y, .int .i64 m.win.a.m, .int .i64 m.win.a.d, .int .i64 m.win.b.y, .int .i64 m.win.b.m, .int .i64 m.win.b.d, .int .i64 m.line, .int .i64 m.col]); exact qM _ _) | (go_at_call 25; exact qN _ _)))
          refine wpQuiet_nil ?_
          intro _ hw'
          obtain ⟨⟨dq, osq⟩, hw''⟩ := hw'
          subst hw''
          go_wp2
          go_ret
          refine ⟨?_, HB.out.trans ((below_regrown w1 dq osq).mono HB.out.size)⟩
          rw [FR.out]
          unfold sameF
          simp [h0, h1, h2, h3]
      · refine wp_region_quiet_below (by kernel_rfl) (by kernel_rfl) ?_
        repeat (go_big_quiet_step (first | (go_at_call_of 25 (Value.agg #[.int .i64 m.amount, .bool m.win.has, .int .i64 m.win.a.y, .int .i64 m.win.a.m, .int .i64 m.win.a.d, .int .i64 m.win.b.y, .int .i64 m.win.b.m, .int .i64 m.win.b.d, .int .i64 m.line, .int .i64 m.col]); exact qM _ _) | (go_at_call 25; exact qN _ _)))
        refine wpQuiet_nil ?_
        intro _ hw'
        obtain ⟨⟨dq, osq⟩, hw''⟩ := hw'
        subst hw''
        go_wp2
        go_ret
        refine ⟨?_, HB.out.trans ((below_regrown w1 dq osq).mono HB.out.size)⟩
        rw [FR.out]
        unfold sameF
        simp [h0, h1, h2]
    · refine wp_region_quiet_below (by kernel_rfl) (by kernel_rfl) ?_
      repeat (go_big_quiet_step (first | (go_at_call_of 25 (Value.agg #[.int .i64 m.amount, .bool m.win.has, .int .i64 m.win.a.y, .int .i64 m.win.a.m, .int .i64 m.win.a.d, .int .i64 m.win.b.y, .int .i64 m.win.b.m, .int .i64 m.win.b.d, .int .i64 m.line, .int .i64 m.col]); exact qM _ _) | (go_at_call 25; exact qN _ _)))
      refine wpQuiet_nil ?_
      intro _ hw'
      obtain ⟨⟨dq, osq⟩, hw''⟩ := hw'
      subst hw''
      go_wp2
      go_ret
      refine ⟨?_, HB.out.trans ((below_regrown w1 dq osq).mono HB.out.size)⟩
      rw [FR.out]
      unfold sameF
      simp [h0, h1]
  · refine wp_region_quiet_below (by kernel_rfl) (by kernel_rfl) ?_
    repeat (go_big_quiet_step (first | (go_at_call_of 25 (Value.agg #[.int .i64 m.amount, .bool m.win.has, .int .i64 m.win.a.y, .int .i64 m.win.a.m, .int .i64 m.win.a.d, .int .i64 m.win.b.y, .int .i64 m.win.b.m, .int .i64 m.win.b.d, .int .i64 m.line, .int .i64 m.col]); exact qM _ _) | (go_at_call 25; exact qN _ _)))
    refine wpQuiet_nil ?_
    intro _ hw'
    obtain ⟨⟨dq, osq⟩, hw''⟩ := hw'
    subst hw''
    go_wp2
    go_ret
    refine ⟨?_, HB.out.trans ((below_regrown w1 dq osq).mono HB.out.size)⟩
    rw [FR.out]
    unfold sameF
    simp [h0]
end Go.Proofs.Ytfeccjcdpiopaaa.Te

/- Package check, walked: days, holds, horizon, rising, greatest, below. -/
import Derived.Test.YtnhhhnngocdagaaJDate
import Derived.Test.YtnhhhnngocdagaaJRound
import Derived.Test.YtnhhhnngocdagaaJPureS
import Derived.Test.YtnhhhnngocdagaaJRef6d
import Derived.Deep.RegionHeldLaw
import Derived.Deep.RegionHeld3
import Derived.BigQuiet
import Derived.Lib.QuietBelow
import Derived.WalkKit
import Derived.ProofKit
import Derived.Test.YtnhhhnngocdagaaJRef6
import Derived.Deep.MidRow
import Derived.Deep.WholeRow
import Derived.Deep.CutBlock
import Derived.Deep.CutRange
import Derived.Deep.DeepCutAuto
import Derived.Test.YtnhhhnngocdagaaJMem
namespace Go.Proofs.Ytnhhhnngocdagaa.Cc
open Go.RowKit Go.Sort P Mm Md R6 L06 R9
theorem num4 (d : Day) (h : DayOk d) (w : World) : Calls Try.prog 53 #[.agg #[.int .i64 d.y, .int .i64 d.m, .int .i64 d.d]] w fun e w' => e = .returned (.tuple #[.int .i64 (dn d), .bool true]) ∧ Below w.heap.size w w' := Dt.number_yes d.y d.m d.d w h
theorem ret_d {a b : Int} {k : IntKind} {w w' : World} {B : Nat} (h : a = b) (x : Below B w w') : (Ending.returned (.int k a) : Ending) = .returned (.int k b) ∧ Below B w w' := ⟨by rw [h], x⟩
set_option maxHeartbeats 4000000 in
theorem days_any (x y : Day) (w : World) (gx : DayOk x) (gy : DayOk y) : Calls Try.prog 39 #[.agg #[.int .i64 x.y, .int .i64 x.m, .int .i64 x.d], .agg #[.int .i64 y.y, .int .i64 y.m, .int .i64 y.d]] w fun e w' => e = .returned (.int .i64 (dn y - dn x)) ∧ Below w.heap.size w w' := by
  obtain ⟨w2, hw2⟩ : ∃ W, W = (w.alloc (.cells #[.int .i64 x.y, .int .i64 x.m, .int .i64 x.d] 24)).alloc (.cells #[.int .i64 y.y, .int .i64 y.m, .int .i64 y.d] 24) := ⟨_, rfl⟩
  have b2 : Below w.heap.size w w2 := by rw [hw2]; exact bel_on (bel_alloc _ _) (bel_alloc _ _)
  have X2 : Box w2 (w.heap.size + 1) [.int .i64 y.y, .int .i64 y.m, .int .i64 y.d] := by rw [hw2]; have := Box.new (w.alloc (.cells #[.int .i64 x.y, .int .i64 x.m, .int .i64 x.d] 24)) [.int .i64 y.y, .int .i64 y.m, .int .i64 y.d] 24; simpa using this
  have X1 : Box w2 w.heap.size [.int .i64 x.y, .int .i64 x.m, .int .i64 x.d] := by rw [hw2]; exact (Box.new w [.int .i64 x.y, .int .i64 x.m, .int .i64 x.d] 24).on (bel_alloc _ _)
  obtain ⟨A, hA⟩ : ∃ A, A = dn x := ⟨_, rfl⟩
  obtain ⟨B, hB⟩ : ∃ A, A = dn y := ⟨_, rfl⟩
  have cA := hid (num4 x gx)
  have cB := hid (num4 y gy)
  have ra := num_range gx
  have rb := num_range gy
  rw [← hA] at cA ra ⊢
  rw [← hB] at cB rb ⊢
  have d0 := X1.cell 0 _ rfl
  have d1 := X1.cell 1 _ rfl
  have d2 := X1.cell 2 _ rfl
  have HX := hid (fun W (b : Below w2.heap.size w2 W) => (⟨X2.on b, bel_on b2 b⟩ : Box W (w.heap.size + 1) _ ∧ Below w.heap.size w W))
  have HW := hid hw2
  clear hA hB b2 X1 X2 hw2
  go_enter Try.func39, Try.ntmps39
  go_upto_region 1 with fail
  rw [← HW.out]
  clear HW
  go_wp2_with fail
  refine (cA.out w2).mono ?_
  rintro e w3 ⟨rfl, b3⟩
  obtain ⟨Y, BW⟩ := HX.out w3 b3
  have e0 := Y.cell 0 _ rfl
  have e1 := Y.cell 1 _ rfl
  have e2 := Y.cell 2 _ rfl
  have BF := hid BW
  clear Y BW b3 d0 d1 d2 cA
  go_wp2_with fail
  refine (cB.out w3).mono ?_
  rintro e w4 ⟨rfl, b4⟩
  have BG := hid (bel_on BF.out b4)
  clear b4 e0 e1 e2 cB HX BF
  obtain ⟨ra0, ra1⟩ := ra
  obtain ⟨rb0, rb1⟩ := rb
  go_wp2
  go_ret
  exact ret_d rfl BG.out
set_option maxHeartbeats 4000000 in
set_option maxRecDepth 100000 in
theorem holds_any (p : Plan) (x : Win) (ma : Option Addr) (mc : Nat) (fa : Option Addr) (fc : Nat) (ca : Option Addr) (cc : Nat) (w : World) (gp : DayOk p.a ∧ DayOk p.b) (gx : WinOk x) :
    Calls Try.prog 41 #[.agg #[.string p.name, .string p.cur, .int .i64 p.a.y, .int .i64 p.a.m, .int .i64 p.a.d, .int .i64 p.b.y, .int .i64 p.b.m, .int .i64 p.b.d, .slice ma p.meters.length mc, .slice fa p.fees.length fc, .slice ca p.charges.length cc, .int .i64 p.line, .int .i64 p.col], .agg #[.bool x.has, .int .i64 x.a.y, .int .i64 x.a.m, .int .i64 x.a.d, .int .i64 x.b.y, .int .i64 x.b.m, .int .i64 x.b.d]] w fun e w' => e = .returned (.bool (winIn p x)) ∧ Below w.heap.size w w' := by
  cases hx : x.has with
  | false =>
    have e : winIn p x = true := by unfold winIn; rw [hx]; rfl
    rw [e]
    have BB := hid (bel_on (bel_alloc w (.cells [.string p.name, .string p.cur, .int .i64 p.a.y, .int .i64 p.a.m, .int .i64 p.a.d, .int .i64 p.b.y, .int .i64 p.b.m, .int .i64 p.b.d, .slice ma p.meters.length mc, .slice fa p.fees.length fc, .slice ca p.charges.length cc, .int .i64 p.line, .int .i64 p.col].toArray 29)) (bel_alloc (w.alloc (.cells [.string p.name, .string p.cur, .int .i64 p.a.y, .int .i64 p.a.m, .int .i64 p.a.d, .int .i64 p.b.y, .int .i64 p.b.m, .int .i64 p.b.d, .slice ma p.meters.length mc, .slice fa p.fees.length fc, .slice ca p.charges.length cc, .int .i64 p.line, .int .i64 p.col].toArray 29)) (.cells [.bool false, .int .i64 x.a.y, .int .i64 x.a.m, .int .i64 x.a.d, .int .i64 x.b.y, .int .i64 x.b.m, .int .i64 x.b.d].toArray 52)))
    clear gp gx hx e
    go_enter Try.func41, Try.ntmps41
    go_wp2
    go_ret
    exact ⟨rfl, BB.out⟩
  | true =>
    obtain ⟨ga, gb⟩ : DayOk x.a ∧ DayOk x.b := by
      rcases gx with ⟨_, h⟩ | h
      · exact h
      · rw [h] at hx; cases hx
    obtain ⟨w1, hw1⟩ : ∃ W, W = w.alloc (.cells [.string p.name, .string p.cur, .int .i64 p.a.y, .int .i64 p.a.m, .int .i64 p.a.d, .int .i64 p.b.y, .int .i64 p.b.m, .int .i64 p.b.d, .slice ma p.meters.length mc, .slice fa p.fees.length fc, .slice ca p.charges.length cc, .int .i64 p.line, .int .i64 p.col].toArray 29) := ⟨_, rfl⟩
    obtain ⟨k1, hk1⟩ : ∃ k, k = w.heap.size := ⟨_, rfl⟩
    have X1 : Box w1 k1 [.string p.name, .string p.cur, .int .i64 p.a.y, .int .i64 p.a.m, .int .i64 p.a.d, .int .i64 p.b.y, .int .i64 p.b.m, .int .i64 p.b.d, .slice ma p.meters.length mc, .slice fa p.fees.length fc, .slice ca p.charges.length cc, .int .i64 p.line, .int .i64 p.col] := by rw [hw1, hk1]; exact Box.new _ _ _
    have b1 : Below w.heap.size w w1 := by rw [hw1]; exact bel_alloc _ _
    obtain ⟨w2, hw2⟩ : ∃ W, W = w1.alloc (.cells [.bool true, .int .i64 x.a.y, .int .i64 x.a.m, .int .i64 x.a.d, .int .i64 x.b.y, .int .i64 x.b.m, .int .i64 x.b.d].toArray 52) := ⟨_, rfl⟩
    obtain ⟨k2, hk2⟩ : ∃ k, k = w1.heap.size := ⟨_, rfl⟩
    have X2 : Box w2 k2 [.bool true, .int .i64 x.a.y, .int .i64 x.a.m, .int .i64 x.a.d, .int .i64 x.b.y, .int .i64 x.b.m, .int .i64 x.b.d] := by rw [hw2, hk2]; exact Box.new _ _ _
    have b2 : Below w1.heap.size w1 w2 := by rw [hw2]; exact bel_alloc _ _
    have hk3 : k2 = w.heap.size + 1 := by rw [hk2, hw1]; simp
    have X := hid (fun (W : World) (b : Below w2.heap.size w2 W) => (⟨(X1.on b2).on b, X2.on b, bel_on (bel_on b1 b2) b⟩ : Box W k1 _ ∧ Box W k2 _ ∧ Below w.heap.size w W))
    obtain ⟨D1, hD1⟩ : ∃ A, A = dn x.b - dn x.a := ⟨_, rfl⟩
    obtain ⟨D2, hD2⟩ : ∃ A, A = dn x.a - dn p.a := ⟨_, rfl⟩
    obtain ⟨D3, hD3⟩ : ∃ A, A = dn p.b - dn x.b := ⟨_, rfl⟩
    have c1 := hid (fun W => days_any x.a x.b W ga gb)
    have c2 := hid (fun W => days_any p.a x.a W gp.1 ga)
    have c3 := hid (fun W => days_any x.b p.b W gb gp.2)
    rw [← hD1] at c1
    rw [← hD2] at c2
    rw [← hD3] at c3
    obtain ⟨R, hR⟩ : ∃ R : Bool, R = (decide (0 ≤ D1) && decide (0 ≤ D2) && decide (0 ≤ D3)) := ⟨_, rfl⟩
    have e : winIn p x = R := by
      unfold winIn
      rw [hx, hR, hD1, hD2, hD3, show decide (0 ≤ dn x.b - dn x.a) = decide (dn x.a ≤ dn x.b) by rw [decide_eq_decide]; omega, show decide (0 ≤ dn x.a - dn p.a) = decide (dn p.a ≤ dn x.a) by rw [decide_eq_decide]; omega, show decide (0 ≤ dn p.b - dn x.b) = decide (dn x.b ≤ dn p.b) by rw [decide_eq_decide]; omega]
      rfl
    rw [e]
    have HR := hid hR
    have d0 := X2.cell 0 _ rfl; have d1 := X2.cell 1 _ rfl; have d2 := X2.cell 2 _ rfl; have d3 := X2.cell 3 _ rfl; have d4 := X2.cell 4 _ rfl; have d5 := X2.cell 5 _ rfl; have d6 := X2.cell 6 _ rfl
    have HW := hid (show w2 = (w.alloc (.cells [.string p.name, .string p.cur, .int .i64 p.a.y, .int .i64 p.a.m, .int .i64 p.a.d, .int .i64 p.b.y, .int .i64 p.b.m, .int .i64 p.b.d, .slice ma p.meters.length mc, .slice fa p.fees.length fc, .slice ca p.charges.length cc, .int .i64 p.line, .int .i64 p.col].toArray 29)).alloc (.cells [.bool true, .int .i64 x.a.y, .int .i64 x.a.m, .int .i64 x.a.d, .int .i64 x.b.y, .int .i64 x.b.m, .int .i64 x.b.d].toArray 52) by rw [hw2, hw1])
    have HK1 := hid hk1
    have HK3 := hid hk3
    have BF0 := hid (X.out w2 (Below.refl _ _)).2.2
    clear hD1 hD2 hD3 hR e hw1 hw2 b1 b2 X1 X2 hk1 hk2 hk3 ga gb gx gp hx
    go_enter Try.func41, Try.ntmps41
    go_upto_region 1 with fail
    rw [← HW.out, ← HK3.out, ← HK1.out]
    clear HW HK1 HK3
    by_cases h1 : 0 ≤ D1
    · have g1 : decide (0 ≤ D1) = true := decide_eq_true h1
      by_cases h2 : 0 ≤ D2
      · have g2 : decide (0 ≤ D2) = true := decide_eq_true h2
        have K : Hid (R = decide (0 ≤ D3)) := hid (by rw [HR.out, g1, g2]; rfl)
        go_wp2_with fail
        refine (c1.out w2).mono ?_
        rintro e w3 ⟨rfl, b3⟩
        have B3 := hid b3
        clear b3 d0 d1 d2 d3 d4 d5 d6 BF0
        obtain ⟨Y1, Y2, BW⟩ := X.out _ B3.out
        have a2 := Y1.cell 2 _ rfl
        have a3 := Y1.cell 3 _ rfl
        have a4 := Y1.cell 4 _ rfl
        have z1 := Y2.cell 1 _ rfl
        have z2 := Y2.cell 2 _ rfl
        have z3 := Y2.cell 3 _ rfl
        clear Y1 Y2 BW
        go_wp2_with fail
        refine (c2.out w3).mono ?_
        rintro e w4 ⟨rfl, b4⟩
        have B4 := hid (bel_on B3.out b4)
        clear b4 a2 a3 a4 z1 z2 z3 B3
        obtain ⟨Y1, Y2, BW⟩ := X.out _ B4.out
        have a5 := Y1.cell 5 _ rfl
        have a6 := Y1.cell 6 _ rfl
        have a7 := Y1.cell 7 _ rfl
        have z4 := Y2.cell 4 _ rfl
        have z5 := Y2.cell 5 _ rfl
        have z6 := Y2.cell 6 _ rfl
        clear Y1 Y2 BW
        go_wp2_with fail
        refine (c3.out w4).mono ?_
        rintro e w5 ⟨rfl, b5⟩
        have B5 := hid (X.out _ (bel_on B4.out b5)).2.2
        clear b5 a5 a6 a7 z4 z5 z6 B4
        by_cases h3 : 0 ≤ D3
        · have K2 : Hid (R = true) := hid (by rw [K.out, decide_eq_true h3])
          have g3 : decide (0 ≤ D3) = true := decide_eq_true h3
          clear K HR
          go_wp2
          go_ret
          exact rb_of (by rw [K2.out] <;> first | exact decide_eq_true h3) B5.out
        · have K2 : Hid (R = false) := hid (by rw [K.out, decide_eq_false h3])
          have g3 : decide (0 ≤ D3) = false := decide_eq_false h3
          clear K HR
          go_wp2
          go_ret
          exact rb_of (by rw [K2.out] <;> first | exact decide_eq_false h3) B5.out
      · have g2 : decide (0 ≤ D2) = false := decide_eq_false h2
        have K : Hid (R = false) := hid (by rw [HR.out, g1, g2]; rfl)
        go_wp2_with fail
        refine (c1.out w2).mono ?_
        rintro e w3 ⟨rfl, b3⟩
        have B3 := hid b3
        clear b3 d0 d1 d2 d3 d4 d5 d6 BF0
        obtain ⟨Y1, Y2, BW⟩ := X.out _ B3.out
        have a2 := Y1.cell 2 _ rfl
        have a3 := Y1.cell 3 _ rfl
        have a4 := Y1.cell 4 _ rfl
        have z1 := Y2.cell 1 _ rfl
        have z2 := Y2.cell 2 _ rfl
        have z3 := Y2.cell 3 _ rfl
        clear Y1 Y2 BW
        go_wp2_with fail
        refine (c2.out w3).mono ?_
        rintro e w4 ⟨rfl, b4⟩
        have BF := hid (X.out _ (bel_on B3.out b4)).2.2
        clear b4 a2 a3 a4 z1 z2 z3 B3
        go_wp2
        go_ret
        exact ⟨ret_b K.out.symm, BF.out⟩
    · have g1 : decide (0 ≤ D1) = false := decide_eq_false h1
      have K : Hid (R = false) := hid (by rw [HR.out, g1]; rfl)
      go_wp2_with fail
      refine (c1.out w2).mono ?_
      rintro e w3 ⟨rfl, b3⟩
      have BF := hid (X.out _ b3).2.2
      clear b3 d0 d1 d2 d3 d4 d5 d6 BF0
      go_wp2
      go_ret
      exact ⟨ret_b K.out.symm, BF.out⟩
set_option maxHeartbeats 4000000 in
set_option maxRecDepth 100000 in
theorem horizon_any (p : Plan) (ma : Option Addr) (mc : Nat) (fa : Option Addr) (fc : Nat) (ca : Option Addr) (cc : Nat) (w : World) (gp : DayOk p.a ∧ DayOk p.b) :
    Calls Try.prog 13 #[.agg #[.string p.name, .string p.cur, .int .i64 p.a.y, .int .i64 p.a.m, .int .i64 p.a.d, .int .i64 p.b.y, .int .i64 p.b.m, .int .i64 p.b.d, .slice ma p.meters.length mc, .slice fa p.fees.length fc, .slice ca p.charges.length cc, .int .i64 p.line, .int .i64 p.col]] w fun e w' => e = .returned (.int .i64 (headE p)) ∧ Below w.heap.size w w' := by
  obtain ⟨w1, hw1⟩ : ∃ W, W = w.alloc (.cells [.string p.name, .string p.cur, .int .i64 p.a.y, .int .i64 p.a.m, .int .i64 p.a.d, .int .i64 p.b.y, .int .i64 p.b.m, .int .i64 p.b.d, .slice ma p.meters.length mc, .slice fa p.fees.length fc, .slice ca p.charges.length cc, .int .i64 p.line, .int .i64 p.col].toArray 29) := ⟨_, rfl⟩
  obtain ⟨k1, hk1⟩ : ∃ k, k = w.heap.size := ⟨_, rfl⟩
  have X1 : Box w1 k1 [.string p.name, .string p.cur, .int .i64 p.a.y, .int .i64 p.a.m, .int .i64 p.a.d, .int .i64 p.b.y, .int .i64 p.b.m, .int .i64 p.b.d, .slice ma p.meters.length mc, .slice fa p.fees.length fc, .slice ca p.charges.length cc, .int .i64 p.line, .int .i64 p.col] := by rw [hw1, hk1]; exact Box.new _ _ _
  have b1 := hid (show Below w.heap.size w w1 by rw [hw1]; exact bel_alloc _ _)
  have c1 := hid (fun W => days_any p.a p.b W gp.1 gp.2)
  obtain ⟨D, hD⟩ : ∃ A, A = dn p.b - dn p.a := ⟨_, rfl⟩
  have ra := num_range gp.1
  have rb := num_range gp.2
  rw [← hD] at c1
  have d0 : -4000000 ≤ D := by omega
  have d1 : D ≤ 4000000 := by omega
  obtain ⟨R, hR⟩ : ∃ R, R = headE p := ⟨_, rfl⟩
  have HR : Hid (R = if D + 1 < 1 then 5 else if 4000 < D + 1 then 6 else 0) := hid (by rw [hR, hD]; rfl)
  rw [← hR]
  have e2 := X1.cell 2 _ rfl; have e3 := X1.cell 3 _ rfl; have e4 := X1.cell 4 _ rfl; have e5 := X1.cell 5 _ rfl; have e6 := X1.cell 6 _ rfl; have e7 := X1.cell 7 _ rfl
  have HW := hid hw1
  have HK := hid hk1
  clear hR hD ra rb gp X1 hw1 hk1
  go_enter Try.func13, Try.ntmps13
  go_upto_region 1 with fail
  rw [← HW.out, ← HK.out]
  clear HW HK
  go_wp2_with fail
  refine (c1.out w1).mono ?_
  rintro e w2 ⟨rfl, b2⟩
  have BF := hid (bel_on b1.out b2)
  clear b2 e2 e3 e4 e5 e6 e7 c1 b1
  by_cases g1 : D < 0
  · have K : Hid (R = 5) := hid (by rw [HR.out, if_pos (by omega)])
    go_wp2
    go_ret
    exact ⟨ret_i K.out.symm, BF.out⟩
  by_cases g2 : 4000 < D + 1
  · have K : Hid (R = 6) := hid (by rw [HR.out, if_neg (by omega), if_pos g2])
    go_wp2
    go_ret
    exact ⟨ret_i K.out.symm, BF.out⟩
  · have K : Hid (R = 0) := hid (by rw [HR.out, if_neg (by omega), if_neg g2])
    go_wp2
    go_ret
    exact ⟨ret_i K.out.symm, BF.out⟩
set_option maxHeartbeats 4000000 in
theorem below_any (n : Int) (b : Bool) (w : World) : Calls Try.prog 27 #[.int .i64 n, .bool b] w fun e w' => e = .returned (.tuple #[.int .i64 ((lim n b).getD 0), .bool (lim n b).isSome]) ∧ w' = w := by
  cases b with
  | false =>
    have E : Hid (lim n false = none) := hid (lim_f rfl)
    go_enter Try.func27, Try.ntmps27
    go_wp2
    go_ret2
    exact ⟨ret_n E.out, rfl⟩
  | true =>
    by_cases hg : 1152921504606846976 ≤ n
    · have E : Hid (lim n true = none) := hid (lim_g hg)
      go_enter Try.func27, Try.ntmps27
      go_wp2
      go_ret2
      exact ⟨ret_n E.out, rfl⟩
    · have E : Hid (lim n true = some n) := hid (lim_t rfl (by unfold maxBound; omega))
      go_enter Try.func27, Try.ntmps27
      go_wp2
      go_ret2
      exact ⟨ret_v E.out, rfl⟩
set_option maxHeartbeats 4000000 in
set_option maxRecDepth 100000 in
theorem greatest_any (l : List Tier) (ta : Option Addr) (tc : Nat) (w : World) (hx : Row tTier w ta l.length tc l) :
    Calls Try.prog 62 #[.slice ta l.length tc] w fun e w' => e = .returned (.int .i64 (topRate l)) ∧ Below w.heap.size w w' := by
  obtain ⟨n, hn⟩ : ∃ n, n = l.length := ⟨_, rfl⟩
  have u1 := hx.hcap
  have u2 := hx.hmax
  obtain ⟨R, hR⟩ : ∃ R, R = topRate l := ⟨_, rfl⟩
  rw [← hR]
  have HR := hid hR
  rw [← hn] at hx u1 ⊢
  have HX := hid hx
  have HN := hid hn
  clear hR hx hn
  go_enter Try.func62, Try.ntmps62
  go_wp2
  go_loopw [3, 8] (fun v i wr => ∃ (i' : Nat), v = .int .i64 (topRate (l.take i')) ∧ i = .int .i64 (i' : Int) ∧ i' ≤ n ∧ Hid (Below w.heap.size w wr)) (fun _ i _ => n - (intOf i).toNat)
  case atStart => exact ⟨0, rfl, rfl, Nat.zero_le _, hid (Below.refl _ _)⟩
  case round =>
    obtain ⟨i', rfl, rfl, hi, hB⟩ := hrel
    by_cases hlt : i' < n
    · obtain ⟨t, hti⟩ : ∃ m, l[i']? = some m := ⟨_, List.getElem?_eq_getElem (by have := HN.out; omega)⟩
      have ST := hid (topRate_step hti)
      obtain ⟨b, o, e, lb, a0, a1, _⟩ := tier_at (HX.out.on hB.out) hti
      have B2 := hid (bel_on hB.out (bel_alloc _ (.cells [.int .i64 t.upto, .int .i64 t.rate].toArray 101)))
      obtain ⟨tr, htr⟩ : ∃ x, x = topRate (l.take i') := ⟨_, rfl⟩
      rw [← htr] at ST ⊢
      clear hti htr
      subst e
      go_wp2
      go_roundw
      case rel => exact ⟨i' + 1, by rw [ST.out], by simp, by omega, B2⟩
      case measure => simp [intOf]; omega
    · obtain rfl : i' = n := by omega
      have ET : Hid (topRate (l.take i') = R) := hid (by rw [HN.out, List.take_length, HR.out])
      go_wp2
      go_ret
      exact ⟨ret_i ET.out, hB.out⟩
set_option maxHeartbeats 4000000 in
set_option maxRecDepth 100000 in
theorem rising_any (l : List Tier) (ta : Option Addr) (tc : Nat) (w : World) (hx : Row tTier w ta l.length tc l) (hl : l.length ≤ 100000) :
    Calls Try.prog 42 #[.slice ta l.length tc] w fun e w' => e = .returned (.bool (risesB 0 l)) ∧ Below w.heap.size w w' := by
  obtain ⟨n, hn⟩ : ∃ n, n = l.length := ⟨_, rfl⟩
  have u1 := hx.hcap
  have u2 := hx.hmax
  obtain ⟨R, hR⟩ : ∃ R, R = risesB 0 l := ⟨_, rfl⟩
  rw [← hR]
  have HR := hid hR
  rw [← hn] at hx u1 hl ⊢
  have HX := hid hx
  have HN := hid hn
  have hl1 : (n : Int) ≤ 100000 := by omega
  clear hR hx hn hl
  go_enter Try.func42, Try.ntmps42
  go_wp2
  go_loopw [3, 8] (fun v i wr => ∃ (i' : Nat) (u : Int), v = .int .i64 u ∧ i = .int .i64 (i' : Int) ∧ i' ≤ n ∧ 0 ≤ u ∧ Hid (R = risesB u (l.drop i')) ∧ Hid (Below w.heap.size w wr)) (fun _ i _ => n - (intOf i).toNat)
  case atStart => exact ⟨0, 0, rfl, rfl, Nat.zero_le _, Int.le_refl _, hid HR.out, hid (Below.refl _ _)⟩
  case round =>
    obtain ⟨i', u, rfl, rfl, hi, hu, hE, hB⟩ := hrel
    by_cases hlt : i' + 1 < n
    · obtain ⟨t, hti⟩ : ∃ m, l[i']? = some m := ⟨_, List.getElem?_eq_getElem (by have := HN.out; omega)⟩
      have st := rises_step (u := u) hti (by have := HN.out; omega)
      obtain ⟨b, o, e, lb, a0, a1, _⟩ := tier_at (HX.out.on hB.out) hti
      have lt1 : i' < n := by omega
      subst e
      by_cases hg : t.upto ≤ u
      · have K : Hid (R = false) := hid (by rw [hE.out, st, show decide (u < t.upto) = false from decide_eq_false (by omega), Bool.and_false]; rfl)
        clear hti st hE a1
        go_wp2
        go_ret
        exact ⟨ret_b K.out.symm, hB.out⟩
      · have K : Hid (R = risesB t.upto (l.drop (i' + 1))) := hid (by rw [hE.out, st, show decide (1 ≤ t.upto) = true from decide_eq_true (by omega), show decide (u < t.upto) = true from decide_eq_true (by omega)]; rfl)
        have t0 : 0 ≤ t.upto := by omega
        clear hti st hE a1
        go_wp2
        go_roundw
        case rel => exact ⟨i' + 1, t.upto, rfl, by simp, by omega, t0, K, hB⟩
        case measure => simp [intOf]; omega
    · have K : Hid (R = true) := hid (by rw [hE.out, rises_stop (by have := HN.out; omega)])
      clear hE
      go_wp2
      go_ret
      exact ⟨ret_b K.out.symm, hB.out⟩
end Go.Proofs.Ytnhhhnngocdagaa.Cc
/- Package tree, walked: a meter, a fee without its place; whether two are one. -/
namespace Go.Proofs.Ytnhhhnngocdagaa.Te
open Go.RowKit Go.Sort P Mm Tl
theorem bel_alloc2 (w : World) (x y : Obj) : Below w.heap.size w ((w.alloc x).alloc y) := bel_on (bel_alloc w x) (bel_alloc _ y)
end Go.Proofs.Ytnhhhnngocdagaa.Te
/- Package tree, walked: charges held against each other. -/
namespace Go.Proofs.Ytnhhhnngocdagaa.Te
open Go.RowKit Go.Sort P Mm R6 Tl
theorem cell1 {w : World} {a : List Value} {t : TypeId} {j : Nat} {v : Value} (h : a[j]? = some v) : (w.alloc (.cells a.toArray t)).cell? ⟨w.heap.size, j, none⟩ = some v := by
  rw [World.cell?_alloc_new]
  simpa using h
theorem cell2b {w : World} {a b : List Value} {t u : TypeId} {j : Nat} {v : Value} (h : b[j]? = some v) : ((w.alloc (.cells a.toArray t)).alloc (.cells b.toArray u)).cell? ⟨w.heap.size + 1, j, none⟩ = some v := by
  have := cell1 (w := w.alloc (.cells a.toArray t)) (t := u) h
  rwa [show (w.alloc (.cells a.toArray t)).heap.size = w.heap.size + 1 by simp] at this
end Go.Proofs.Ytnhhhnngocdagaa.Te
/- Package tree, walked: Same. -/
namespace Go.Proofs.Ytnhhhnngocdagaa.Te
open Go.RowKit Go.Sort P Mm R6 Tl
theorem str_eq {a b : ByteArray} : a.toList = b.toList ↔ a = b := by
  constructor
  · intro h
    rw [ByteArray.toList_eq, ByteArray.toList_eq] at h
    exact ByteArray.ext (Array.toList_inj.1 h)
  · rintro rfl; rfl
end Go.Proofs.Ytnhhhnngocdagaa.Te
/- Package tree, walked: Meter. -/
namespace Go.Proofs.Ytnhhhnngocdagaa.Te
open Go.RowKit Go.Sort P Mm R6 Tl L06
theorem named_any (m : Meter) (name : ByteArray) (b : Nat) (w : World) (hk : w.cell? ⟨b, 0, none⟩ = some (.string name)) (hb : b < w.heap.size) :
    Calls Try.prog 55 #[.agg (meterC m).toArray, .pointer (some ⟨b, 0, none⟩)] w fun e w' => e = .returned (.bool (m.name.toList == name.toList)) ∧ Below w.heap.size w w' := by
  obtain ⟨w1, hw1⟩ : ∃ w1, w1 = w.alloc (.cells (meterC m).toArray 49) := ⟨_, rfl⟩
  have b1 : Below w.heap.size w w1 := by rw [hw1]; exact bel_alloc ..
  unfold meterC at hw1 ⊢
  rcases Bool.eq_false_or_eq_true (m.name.toList == name.toList) with h | h <;> rw [h]
  all_goals
    go_enter Try.func55, Try.ntmps55
    go_wp2
    go_ret
    rw [← hw1]
    exact ⟨rfl, b1⟩
set_option maxHeartbeats 4000000 in
set_option maxRecDepth 100000 in
theorem idxM_any (xs : List Meter) (ma : Option Addr) (mc : Nat) (name : ByteArray) (b : Nat) (w : World) (hx : Row tMeter w ma xs.length mc xs) (hb : b < w.heap.size) (hk : w.cell? ⟨b, 0, none⟩ = some (.string name)) :
    Calls Try.prog 72 #[.slice ma xs.length mc, .func (.func 55) #[] #[.pointer (some ⟨b, 0, none⟩)]] w fun e w' => e = .returned (.int .i64 (scan name xs 0)) ∧ Below w.heap.size w w' := by
  obtain ⟨n, hn⟩ : ∃ n, n = xs.length := ⟨_, rfl⟩
  have u1 := hx.hcap
  have u2 := hx.hmax
  obtain ⟨R, hR⟩ : ∃ R, R = scan name xs 0 := ⟨_, rfl⟩
  rw [← hR]
  have HR := hid hR
  rw [← hn] at hx u1 ⊢
  have HX := hid hx
  have HN := hid hn
  have HL := hid hb
  have HK := hid hk
  clear hR hx hn hb hk
  go_enter Try.func72, Try.ntmps72
  go_wp2
  go_loopw [8] (fun i wr => ∃ i' : Int, i = .int .i64 i' ∧ 0 ≤ i' ∧ i' ≤ n ∧ Hid (R = scan name (xs.drop i'.toNat) i') ∧ Hid (Below w.heap.size w wr)) (fun i _ => ((n : Int) - intOf i).toNat)
  case atStart => exact ⟨0, rfl, by omega, by omega, hid HR.out, hid (Below.refl _ _)⟩
  case round =>
    obtain ⟨i', rfl, i0, i1, hh, hb⟩ := hrel
    by_cases hlt : i' < n
    · obtain ⟨x, tx⟩ : ∃ x, xs[i'.toNat]? = some x := ⟨_, List.getElem?_eq_getElem (by have := HN.out; omega)⟩
      have K : Hid (R = if x.name = name then i' else scan name (xs.drop (i' + 1).toNat) (i' + 1)) := hid (by
        have := scan_drop (name := name) tx
        rw [show ((i'.toNat : Nat) : Int) = i' by omega] at this
        rw [hh.out, this, show (i' + 1).toNat = i'.toNat + 1 by omega])
      obtain ⟨bx, ox, e, lbx, x0, x1, x2, x3, x4, _⟩ := meter_at (HX.out.on hb.out) tx
      subst e
      have cS := named_any x name b wr (by rw [hb.out.cell HL.out]; exact HK.out) (Nat.lt_of_lt_of_le HL.out hb.out.size)
      unfold meterC at cS
      clear tx hh
      go_wp2_with fail
      refine cS.mono ?_
      rintro e w' ⟨rfl, b3⟩
      have HB := hid (bel_on hb.out b3)
      clear cS b3
      rcases Bool.eq_false_or_eq_true (x.name.toList == name.toList) with g | g
      · have K2 : Hid (R = i') := hid (by rw [K.out, if_pos (str_eq.1 (eq_of_beq g))])
        rw [g]
        go_wp2
        go_ret
        exact ⟨by rw [K2.out]; rfl, HB.out⟩
      · have K2 : Hid (R = scan name (xs.drop (i' + 1).toNat) (i' + 1)) := hid (by rw [K.out, if_neg (fun e => by rw [e] at g; simp at g)])
        rw [g]
        go_wp2
        go_roundw
        case rel => exact ⟨i' + 1, rfl, by omega, by omega, K2, HB⟩
        case measure => simp [intOf]; omega
    · obtain rfl : i' = n := by omega
      have K2 : Hid (R = -1) := hid (by rw [hh.out, List.drop_eq_nil_of_le (by have := HN.out; omega)]; rfl)
      go_wp2
      go_ret
      exact ⟨by rw [K2.out]; rfl, hb.out⟩
theorem findMt_any (xs : List Meter) (ma : Option Addr) (mc : Nat) (name : ByteArray) (b : Nat) (w : World) (hx : Row tMeter w ma xs.length mc xs) (hb : b < w.heap.size) (hk : w.cell? ⟨b, 0, none⟩ = some (.string name)) :
    Calls Try.prog 54 #[.slice ma xs.length mc, .func (.func 55) #[] #[.pointer (some ⟨b, 0, none⟩)]] w fun e w' => e = .returned (.int .i64 (scan name xs 0)) ∧ Below w.heap.size w w' := by
  have c := idxM_any xs ma mc name b w hx hb hk
  clear hx hb hk
  go_enter Try.func54, Try.ntmps54
  go_wp2_with fail
  refine c.mono ?_
  rintro e w' ⟨rfl, b⟩
  clear c
  go_wp2
  go_ret
  exact ⟨rfl, b⟩
set_option maxHeartbeats 4000000 in
set_option maxRecDepth 100000 in
theorem meter_any (p : Plan) (name : ByteArray) (ma : Option Addr) (mc : Nat) (fa : Option Addr) (fc : Nat) (ca : Option Addr) (cc : Nat) (w : World) (hp : PlanLies w (planC p ma mc fa fc ca cc) p ma mc fa fc ca cc) :
    Calls Try.prog 40 #[.agg (planC p ma mc fa fc ca cc).toArray, .string name] w fun e w' => e = .returned (.int .i64 (findM p name)) ∧ Below w.heap.size w w' := by
  obtain ⟨w1, hw1⟩ : ∃ w1, w1 = (w.alloc (.cells (planC p ma mc fa fc ca cc).toArray 29)).alloc (.cells #[.string name] 9) := ⟨_, rfl⟩
  have b1 : Below w.heap.size w w1 := by rw [hw1]; exact bel_alloc2 ..
  have s1 : w1.heap.size = w.heap.size + 2 := by rw [hw1]; simp
  have c := findMt_any p.meters ma mc name (w.heap.size + 1) w1 (hp.meters.on b1) (by omega) (by rw [hw1]; exact cell2b (b := [.string name]) rfl)
  rw [scan_all] at c
  have HW1 := hid hw1
  clear hw1 s1 hp
  unfold planC at HW1 ⊢
  go_enter Try.func40, Try.ntmps40
  go_wp2_with fail
  rw [← HW1.out]
  refine c.mono ?_
  rintro e w' ⟨rfl, b⟩
  clear c
  go_wp2
  go_ret
  exact ⟨rfl, bel_on b1 b⟩
end Go.Proofs.Ytnhhhnngocdagaa.Te
/- Package check, walked: meter, fee, charge, adjusted. -/
namespace Go.Proofs.Ytnhhhnngocdagaa.Cc
open Go.RowKit Go.Sort P Mm Md R6 L06 R9
theorem meter4 (p : Plan) (name : ByteArray) (ma : Option Addr) (mc : Nat) (fa : Option Addr) (fc : Nat) (ca : Option Addr) (cc : Nat) (w : World) (hp : PlanLies w (planC p ma mc fa fc ca cc) p ma mc fa fc ca cc) :
    Calls Try.prog 40 #[.agg #[.string p.name, .string p.cur, .int .i64 p.a.y, .int .i64 p.a.m, .int .i64 p.a.d, .int .i64 p.b.y, .int .i64 p.b.m, .int .i64 p.b.d, .slice ma p.meters.length mc, .slice fa p.fees.length fc, .slice ca p.charges.length cc, .int .i64 p.line, .int .i64 p.col], .string name] w fun e w' => e = .returned (.int .i64 (mix p.meters name)) ∧ Below w.heap.size w w' := by
  have := Te.meter_any p name ma mc fa fc ca cc w hp
  rw [← scan_all, ← mix_scan] at this
  exact this
theorem mix_at {ms : List Meter} {i : Nat} {m : Meter} (h : ms[i]? = some m) : 0 ≤ mix ms m.name ∧ mix ms m.name ≤ i := by
  unfold mix
  cases hm : meterIx ms m.name with
  | none =>
    exfalso
    unfold meterIx at hm
    rw [List.findIdx?_eq_none_iff] at hm
    have := hm m (List.mem_of_getElem? h)
    simp at this
  | some k =>
    unfold meterIx at hm
    obtain ⟨hk, hk2, hk3⟩ := List.findIdx?_eq_some_iff_getElem.1 hm
    show (0 : Int) ≤ (k : Int) ∧ (k : Int) ≤ i
    refine ⟨by omega, ?_⟩
    rcases Nat.lt_or_ge i k with hlt | hge
    · exfalso
      have := hk3 i hlt
      obtain ⟨hi, rfl⟩ := List.getElem?_eq_some_iff.1 h
      simp at this
    · omega
theorem meterE_mix {p : Plan} {i : Nat} {m : Meter} (h : p.meters[i]? = some m) : meterE p i m = if 4 ≤ i then 6 else if mix p.meters m.name < i then 5 else 0 := by
  unfold meterE
  by_cases h4 : 4 ≤ i
  · rw [if_pos h4, if_pos h4]
  · rw [if_neg h4, if_neg h4]
    have := mix_at h
    by_cases hl : mix p.meters m.name < i
    · rw [if_pos hl, if_neg (fun e => by rw [← mix_some] at e; omega)]
    · rw [if_neg hl, if_pos (mix_some.1 (by omega))]
set_option maxHeartbeats 8000000 in
set_option maxRecDepth 100000 in
theorem checkM_any (p : Plan) (ma : Option Addr) (mc : Nat) (fa : Option Addr) (fc : Nat) (ca : Option Addr) (cc : Nat) (i : Nat) (m : Meter) (w : World) (hp : PlanLies w (planC p ma mc fa fc ca cc) p ma mc fa fc ca cc) (hti : p.meters[i]? = some m) (hl : p.meters.length ≤ 100000) :
    Calls Try.prog 14 #[.agg #[.string p.name, .string p.cur, .int .i64 p.a.y, .int .i64 p.a.m, .int .i64 p.a.d, .int .i64 p.b.y, .int .i64 p.b.m, .int .i64 p.b.d, .slice ma p.meters.length mc, .slice fa p.fees.length fc, .slice ca p.charges.length cc, .int .i64 p.line, .int .i64 p.col], .int .i64 (i : Int)] w fun e w' => e = .returned (.int .i64 (meterE p i m)) ∧ Below w.heap.size w w' := by
  obtain ⟨w1, hw1⟩ : ∃ W, W = w.alloc (.cells [.string p.name, .string p.cur, .int .i64 p.a.y, .int .i64 p.a.m, .int .i64 p.a.d, .int .i64 p.b.y, .int .i64 p.b.m, .int .i64 p.b.d, .slice ma p.meters.length mc, .slice fa p.fees.length fc, .slice ca p.charges.length cc, .int .i64 p.line, .int .i64 p.col].toArray 29) := ⟨_, rfl⟩
  obtain ⟨k1, hk1⟩ : ∃ k, k = w.heap.size := ⟨_, rfl⟩
  have X1 : Box w1 k1 [.string p.name, .string p.cur, .int .i64 p.a.y, .int .i64 p.a.m, .int .i64 p.a.d, .int .i64 p.b.y, .int .i64 p.b.m, .int .i64 p.b.d, .slice ma p.meters.length mc, .slice fa p.fees.length fc, .slice ca p.charges.length cc, .int .i64 p.line, .int .i64 p.col] := by rw [hw1, hk1]; exact Box.new _ _ _
  have b1 : Below w.heap.size w w1 := by rw [hw1]; exact bel_alloc _ _
  obtain ⟨n, hn⟩ : ∃ n, n = p.meters.length := ⟨_, rfl⟩
  have hin : i < n := by rw [hn]; exact (List.getElem?_eq_some_iff.1 hti).1
  have n1 : n ≤ mc := by rw [hn]; exact hp.meters.hcap
  have n2 : n ≤ 100000 := by rw [hn]; exact hl
  have cM := fun (W : World) (bw : Below w1.heap.size w1 W) => meter4 p m.name ma mc fa fc ca cc W (hp.on (bel_on b1 bw))
  obtain ⟨IX, hIX⟩ : ∃ z, z = mix p.meters m.name := ⟨_, rfl⟩
  rw [← hIX] at cM
  obtain ⟨E, hE⟩ : ∃ E, E = meterE p i m := ⟨_, rfl⟩
  have HE : Hid (E = if 4 ≤ i then 6 else if IX < i then 5 else 0) := hid (by rw [hE, meterE_mix hti, hIX])
  rw [← hE]
  obtain ⟨b, o, e, lb, a0, a1, a2, a3, a4, _⟩ := meter_at (hp.on b1).meters hti
  have BF := hid b1
  have HW1 := hid hw1
  have HK1 := hid hk1
  have HN := hid hn
  by_cases h8 : 4 ≤ i
  · have K : Hid (E = 6) := hid (by rw [HE.out, if_pos h8])
    have h9 : (4 : Int) ≤ (i : Int) := by omega
    clear hIX hE cM a0 a1 a2 a3 a4 hw1 hk1 hn hp hti X1 b1 HE e
    go_enter Try.func14, Try.ntmps14
    go_wp2
    rw [← HW1.out]
    go_ret
    exact ret_d K.out.symm BF.out
  have h9 : (i : Int) < 4 := by omega
  have HE2 : Hid (E = if IX < i then 5 else 0) := hid (by rw [HE.out, if_neg h8])
  have f0 := cell_regrown (X1.cell 0 _ rfl); have f1 := cell_regrown (X1.cell 1 _ rfl); have f2 := cell_regrown (X1.cell 2 _ rfl); have f3 := cell_regrown (X1.cell 3 _ rfl); have f4 := cell_regrown (X1.cell 4 _ rfl); have f5 := cell_regrown (X1.cell 5 _ rfl); have f6 := cell_regrown (X1.cell 6 _ rfl); have f7 := cell_regrown (X1.cell 7 _ rfl); have f8 := cell_regrown (X1.cell 8 _ rfl); have f9 := cell_regrown (X1.cell 9 _ rfl); have f10 := cell_regrown (X1.cell 10 _ rfl); have f11 := cell_regrown (X1.cell 11 _ rfl); have f12 := cell_regrown (X1.cell 12 _ rfl)
  have fm := cell_regrown a0
  have qM := fun d os => Calls.regrown_of (cM (grow (redrawn w1 d) os) (below_regrown w1 d os))
  rw [← hn] at f8
  have ff8 := f8
  clear hIX hE cM a0 a1 a2 a3 a4 hw1 hk1 hp hti X1 b1 HE h8 ff8
  subst e
  go_enter Try.func14, Try.ntmps14
  go_upto_region 3 with fail
  rw [← HW1.out, ← HK1.out]
  rw [← hn] at qM ⊢
  clear HW1 HK1 hn
  refine wp_region_quiet_below (by kernel_rfl) (by kernel_rfl) ?_
  repeat (go_big_quiet_step (first | (go_at_call 40; exact qM _ _)))
  refine wpQuiet_nil ?_
  intro wv hw'
  obtain ⟨⟨dq, osq⟩, hw''⟩ := hw'
  have BV : Hid (Below w.heap.size w wv) := hid (by subst hw''; exact bel_on BF.out (below_regrown w1 dq osq))
  clear hw'' qM fm f0 f1 f2 f3 f4 f5 f6 f7 f8 f9 f10 f11 f12 BF
  by_cases hg : IX < (i : Int)
  · have K : Hid (E = 5) := hid (by rw [HE2.out, if_pos hg])
    have gg : decide (IX < (i : Int)) = true := decide_eq_true hg
    go_wp2
    go_ret
    exact ret_d K.out.symm BV.out
  · have K : Hid (E = 0) := hid (by rw [HE2.out, if_neg hg])
    have gg : decide (IX < (i : Int)) = false := decide_eq_false hg
    go_wp2
    go_ret
    exact ret_d K.out.symm BV.out
set_option maxHeartbeats 8000000 in
set_option maxRecDepth 100000 in
theorem checkF_any (p : Plan) (ma : Option Addr) (mc : Nat) (fa : Option Addr) (fc : Nat) (ca : Option Addr) (cc : Nat) (i : Nat) (m : Fee) (w : World) (hp : PlanLies w (planC p ma mc fa fc ca cc) p ma mc fa fc ca cc) (hti : p.fees[i]? = some m) (gd : Gd p) (hl : p.fees.length ≤ 100000) :
    Calls Try.prog 15 #[.agg #[.string p.name, .string p.cur, .int .i64 p.a.y, .int .i64 p.a.m, .int .i64 p.a.d, .int .i64 p.b.y, .int .i64 p.b.m, .int .i64 p.b.d, .slice ma p.meters.length mc, .slice fa p.fees.length fc, .slice ca p.charges.length cc, .int .i64 p.line, .int .i64 p.col], .int .i64 (i : Int)] w fun e w' => e = .returned (.int .i64 (feeE p i m)) ∧ Below w.heap.size w w' := by
  obtain ⟨w1, hw1⟩ : ∃ W, W = w.alloc (.cells [.string p.name, .string p.cur, .int .i64 p.a.y, .int .i64 p.a.m, .int .i64 p.a.d, .int .i64 p.b.y, .int .i64 p.b.m, .int .i64 p.b.d, .slice ma p.meters.length mc, .slice fa p.fees.length fc, .slice ca p.charges.length cc, .int .i64 p.line, .int .i64 p.col].toArray 29) := ⟨_, rfl⟩
  obtain ⟨k1, hk1⟩ : ∃ k, k = w.heap.size := ⟨_, rfl⟩
  have X1 : Box w1 k1 [.string p.name, .string p.cur, .int .i64 p.a.y, .int .i64 p.a.m, .int .i64 p.a.d, .int .i64 p.b.y, .int .i64 p.b.m, .int .i64 p.b.d, .slice ma p.meters.length mc, .slice fa p.fees.length fc, .slice ca p.charges.length cc, .int .i64 p.line, .int .i64 p.col] := by rw [hw1, hk1]; exact Box.new _ _ _
  have b1 : Below w.heap.size w w1 := by rw [hw1]; exact bel_alloc _ _
  obtain ⟨n, hn⟩ : ∃ n, n = p.fees.length := ⟨_, rfl⟩
  have hin : i < n := by rw [hn]; exact (List.getElem?_eq_some_iff.1 hti).1
  have n1 : n ≤ fc := by rw [hn]; exact hp.fees.hcap
  have n2 : n ≤ 100000 := by rw [hn]; exact hl
  have cM := fun (W : World) => holds_any p m.win ma mc fa fc ca cc W gd.days (gd.fees m (List.mem_of_getElem? hti)).2
  obtain ⟨IX, hIX⟩ : ∃ z, z = winIn p m.win := ⟨_, rfl⟩
  rw [← hIX] at cM
  obtain ⟨E, hE⟩ : ∃ E, E = feeE p i m := ⟨_, rfl⟩
  have HE : Hid (E = if 8 ≤ i then 6 else if IX = true then 0 else 5) := hid (by rw [hE, hIX]; rfl)
  rw [← hE]
  obtain ⟨b, o, e, lb, a0, a1, a2, a3, a4, a5, a6, a7, a8, a9, _⟩ := fee_at (hp.on b1).fees hti
  have BF := hid b1
  have HW1 := hid hw1
  have HK1 := hid hk1
  have HN := hid hn
  by_cases h8 : 8 ≤ i
  · have K : Hid (E = 6) := hid (by rw [HE.out, if_pos h8])
    have h9 : (8 : Int) ≤ (i : Int) := by omega
    clear hIX hE cM a0 a1 a2 a3 a4 a5 a6 a7 a8 a9 hw1 hk1 hn hp hti X1 b1 HE e
    go_enter Try.func15, Try.ntmps15
    go_wp2
    rw [← HW1.out]
    go_ret
    exact ret_d K.out.symm BF.out
  have h9 : (i : Int) < 8 := by omega
  have HE2 : Hid (E = if IX = true then 0 else 5) := hid (by rw [HE.out, if_neg h8])
  have f0 := cell_regrown (X1.cell 0 _ rfl); have f1 := cell_regrown (X1.cell 1 _ rfl); have f2 := cell_regrown (X1.cell 2 _ rfl); have f3 := cell_regrown (X1.cell 3 _ rfl); have f4 := cell_regrown (X1.cell 4 _ rfl); have f5 := cell_regrown (X1.cell 5 _ rfl); have f6 := cell_regrown (X1.cell 6 _ rfl); have f7 := cell_regrown (X1.cell 7 _ rfl); have f8 := cell_regrown (X1.cell 8 _ rfl); have f9 := cell_regrown (X1.cell 9 _ rfl); have f10 := cell_regrown (X1.cell 10 _ rfl); have f11 := cell_regrown (X1.cell 11 _ rfl); have f12 := cell_regrown (X1.cell 12 _ rfl)
  have g1 := cell_regrown a1; have g2 := cell_regrown a2; have g3 := cell_regrown a3; have g4 := cell_regrown a4; have g5 := cell_regrown a5; have g6 := cell_regrown a6; have g7 := cell_regrown a7
  have qM := fun d os => Calls.regrown_of (cM (grow (redrawn w1 d) os))
  rw [← hn] at f9
  clear hIX hE cM a0 a1 a2 a3 a4 a5 a6 a7 a8 a9 hw1 hk1 hp hti X1 b1 HE h8
  subst e
  go_enter Try.func15, Try.ntmps15
  go_upto_region 3 with fail
  rw [← HW1.out, ← HK1.out]
  rw [← hn] at qM ⊢
  clear HW1 HK1 hn
  refine wp_region_quiet_below (by kernel_rfl) (by kernel_rfl) ?_
  repeat (go_big_quiet_step (first | (go_at_call 41; exact qM _ _)))
  refine wpQuiet_nil ?_
  intro wv hw'
  obtain ⟨⟨dq, osq⟩, hw''⟩ := hw'
  have BV : Hid (Below w.heap.size w wv) := hid (by subst hw''; exact bel_on BF.out (below_regrown w1 dq osq))
  clear hw'' qM g1 g2 g3 g4 g5 g6 g7 f0 f1 f2 f3 f4 f5 f6 f7 f8 f9 f10 f11 f12 BF
  by_cases hg : IX = true
  · have K : Hid (E = 0) := hid (by rw [HE2.out, if_pos hg])
    subst hg
    go_wp2
    go_ret
    exact ret_d K.out.symm BV.out
  · have K : Hid (E = 5) := hid (by rw [HE2.out, if_neg hg])
    obtain rfl : IX = false := by simpa using hg
    go_wp2
    go_ret
    exact ret_d K.out.symm BV.out
set_option maxHeartbeats 8000000 in
set_option maxRecDepth 100000 in
theorem charge_any (p : Plan) (ma : Option Addr) (mc : Nat) (fa : Option Addr) (fc : Nat) (ca : Option Addr) (cc : Nat) (i : Nat) (c : Charge) (w : World) (hp : PlanLies w (planC p ma mc fa fc ca cc) p ma mc fa fc ca cc) (hti : p.charges[i]? = some c) (gd : Gd p) (hl : p.charges.length ≤ 100000) (hq : c.tiers.length ≤ 100000) :
    Calls Try.prog 16 #[.agg #[.string p.name, .string p.cur, .int .i64 p.a.y, .int .i64 p.a.m, .int .i64 p.a.d, .int .i64 p.b.y, .int .i64 p.b.m, .int .i64 p.b.d, .slice ma p.meters.length mc, .slice fa p.fees.length fc, .slice ca p.charges.length cc, .int .i64 p.line, .int .i64 p.col], .int .i64 (i : Int)] w fun e w' => e = .returned (.int .i64 (chE p i c)) ∧ Below w.heap.size w w' := by
  obtain ⟨w1, hw1⟩ : ∃ W, W = w.alloc (.cells [.string p.name, .string p.cur, .int .i64 p.a.y, .int .i64 p.a.m, .int .i64 p.a.d, .int .i64 p.b.y, .int .i64 p.b.m, .int .i64 p.b.d, .slice ma p.meters.length mc, .slice fa p.fees.length fc, .slice ca p.charges.length cc, .int .i64 p.line, .int .i64 p.col].toArray 29) := ⟨_, rfl⟩
  obtain ⟨k1, hk1⟩ : ∃ k, k = w.heap.size := ⟨_, rfl⟩
  have X1 : Box w1 k1 [.string p.name, .string p.cur, .int .i64 p.a.y, .int .i64 p.a.m, .int .i64 p.a.d, .int .i64 p.b.y, .int .i64 p.b.m, .int .i64 p.b.d, .slice ma p.meters.length mc, .slice fa p.fees.length fc, .slice ca p.charges.length cc, .int .i64 p.line, .int .i64 p.col] := by rw [hw1, hk1]; exact Box.new _ _ _
  have b1 : Below w.heap.size w w1 := by rw [hw1]; exact bel_alloc _ _
  obtain ⟨b, o, ta, tc, aa, ac, e, ax, lx0⟩ := charge_at (hp.on b1).charges hti
  have r1 := hid (range_ch ax)
  unfold chargeC at r1
  obtain ⟨w2, hw2⟩ : ∃ W, W = w1.alloc (.cells [.string c.meter, .bool c.win.has, .int .i64 c.win.a.y, .int .i64 c.win.a.m, .int .i64 c.win.a.d, .int .i64 c.win.b.y, .int .i64 c.win.b.m, .int .i64 c.win.b.d, .int .i64 c.allowance, .int .i64 c.block, .int .i64 c.kind, .slice ta c.tiers.length tc, .int .i64 c.mode, .slice aa c.adjusts.length ac, .int .i64 c.line, .int .i64 c.col].toArray 58) := ⟨_, rfl⟩
  obtain ⟨k2, hk2⟩ : ∃ k, k = w1.heap.size := ⟨_, rfl⟩
  have X2 : Box w2 k2 [.string c.meter, .bool c.win.has, .int .i64 c.win.a.y, .int .i64 c.win.a.m, .int .i64 c.win.a.d, .int .i64 c.win.b.y, .int .i64 c.win.b.m, .int .i64 c.win.b.d, .int .i64 c.allowance, .int .i64 c.block, .int .i64 c.kind, .slice ta c.tiers.length tc, .int .i64 c.mode, .slice aa c.adjusts.length ac, .int .i64 c.line, .int .i64 c.col] := by rw [hw2, hk2]; exact Box.new _ _ _
  have b2 : Below w1.heap.size w1 w2 := by rw [hw2]; exact bel_alloc _ _
  have X := hid (fun (W : World) (bw : Below w2.heap.size w2 W) => (⟨(X1.on b2).on bw, X2.on bw, hp.on (bel_on (bel_on b1 b2) bw), ch_on lx0 (bel_on b2 bw), bel_on (bel_on b1 b2) bw⟩ : Box W k1 _ ∧ Box W k2 _ ∧ PlanLies W _ p ma mc fa fc ca cc ∧ ChargeLies W _ c ta tc aa ac ∧ Below w.heap.size w W))
  obtain ⟨n, hn⟩ : ∃ n, n = p.charges.length := ⟨_, rfl⟩
  have hin : i < n := by rw [hn]; exact (List.getElem?_eq_some_iff.1 hti).1
  have n1 : n ≤ cc := by rw [hn]; exact hp.charges.hcap
  have n2 : n ≤ 100000 := by rw [hn]; exact hl
  obtain ⟨nT, hnT⟩ : ∃ n, n = c.tiers.length := ⟨_, rfl⟩
  obtain ⟨nA, hnA⟩ : ∃ n, n = c.adjusts.length := ⟨_, rfl⟩
  have GC := gd.charges c (List.mem_of_getElem? hti)
  have cM := hid (fun (W : World) (bw : Below w2.heap.size w2 W) => meter4 p c.meter ma mc fa fc ca cc W (hp.on (bel_on (bel_on b1 b2) bw)))
  have cW := hid (fun (W : World) => holds_any p c.win ma mc fa fc ca cc W gd.days GC.win)
  have cR := hid (fun (W : World) (bw : Below w2.heap.size w2 W) => rising_any c.tiers ta tc W (ch_on lx0 (bel_on b2 bw)).tiers hq)
  have d10 := X1.cell 10 _ rfl
  obtain ⟨E, hE⟩ : ∃ E, E = chE p i c := ⟨_, rfl⟩
  rw [← hE]
  have HE : Hid (E = if 8 ≤ i then 6 else if meterIx p.meters c.meter = none ∨ winIn p c.win = false ∨ c.block = 0 then 5 else if 8 < nT then 6 else if risesB 0 c.tiers = false then 5 else if 6 < nA then 6 else 0) := hid (by rw [hE, hnT, hnA]; rfl)
  obtain ⟨IX, hIX⟩ : ∃ z, z = mix p.meters c.meter := ⟨_, rfl⟩
  obtain ⟨WB, hWB⟩ : ∃ z, z = winIn p c.win := ⟨_, rfl⟩
  obtain ⟨RB, hRB⟩ : ∃ z, z = risesB 0 c.tiers := ⟨_, rfl⟩
  rw [← hIX] at cM
  rw [← hWB] at cW HE
  rw [← hRB] at cR HE
  have HI : Hid (meterIx p.meters c.meter = none ↔ IX < 0) := hid (by rw [hIX]; exact mix_none.symm)
  rw [← hn] at d10
  have HW1 := hid hw1
  have HW2 := hid hw2
  have HK1 := hid hk1
  have HK2 := hid hk2
  rw [← hnT] at cR
  have HNT := hid hnT
  have HNA := hid hnA
  have HN := hid hn
  clear hIX hWB hRB hE hnT hnA GC gd hn X1 X2 hw1 hw2 hk1 hk2 b1 b2 hp ax lx0 hti hl hq
  subst e
  go_enter Try.func16, Try.ntmps16
  go_upto_region 1 with fail
  rw [← HW1.out, ← HK1.out]
  clear HW1
  go_upto_region 2 with (first
    | (with_reducible refine wpList_load_mid (op := Oper.mk (some 10) (Op.load 58 (Operand.tmp 9)) _ _ _ _) ?_ 58 (.tmp 9) ?_ b (o + i * 16) ?_ [.string c.meter, .bool c.win.has, .int .i64 c.win.a.y, .int .i64 c.win.a.m, .int .i64 c.win.a.d, .int .i64 c.win.b.y, .int .i64 c.win.b.m, .int .i64 c.win.b.d, .int .i64 c.allowance, .int .i64 c.block, .int .i64 c.kind, .slice ta c.tiers.length tc, .int .i64 c.mode, .slice aa c.adjusts.length ac, .int .i64 c.line, .int .i64 c.col] _ r1.out Try.underlying58 ?_ ?_ ?_; rfl; rfl; go_simp; rfl; kernel_rfl)
    | (with_reducible refine wpList_store_new (op := Oper.mk none (Op.store 58 (Operand.tmp 5) (Operand.tmp 10)) _ _ _ _) ?_ 58 (.tmp 5) (.tmp 10) ?_ w1 _ #[.string c.meter, .bool c.win.has, .int .i64 c.win.a.y, .int .i64 c.win.a.m, .int .i64 c.win.a.d, .int .i64 c.win.b.y, .int .i64 c.win.b.m, .int .i64 c.win.b.d, .int .i64 c.allowance, .int .i64 c.block, .int .i64 c.kind, .slice ta c.tiers.length tc, .int .i64 c.mode, .slice aa c.adjusts.length ac, .int .i64 c.line, .int .i64 c.col] ?_ ?_ ?_ ?_ ?_ ?_; rfl; rfl; go_simp; go_simp; kernel_rfl; rfl; (simp [Value.oneCell']))
    | fail)
  rw [← HW2.out, ← HK2.out]
  clear HW2 r1 d10
  by_cases h8 : 8 ≤ i
  · have K : Hid (E = 6) := hid (by rw [HE.out, if_pos h8])
    have h9 : (8 : Int) ≤ (i : Int) := by omega
    have BF := hid (X.out w2 (Below.refl _ _)).2.2.2.2
    go_wp2
    go_ret
    exact ⟨ret_i K.out.symm, BF.out⟩
  have HE2 : Hid (E = if meterIx p.meters c.meter = none ∨ WB = false ∨ c.block = 0 then 5 else if 8 < nT then 6 else if RB = false then 5 else if 6 < nA then 6 else 0) := hid (by rw [HE.out, if_neg h8])
  have h9 : (i : Int) < 8 := by omega
  obtain ⟨Y1, Y2, _, _, BW⟩ := X.out w2 (Below.refl _ _)
  have RP := hid (range_of Y1.cell)
  have d0 := Y2.cell 0 _ rfl
  have BF := hid BW
  clear Y1 Y2 BW HE h8
  go_upto_region 4 with fail
  by_cases hI : IX < 0
  · have K : Hid (E = 5) := hid (by rw [HE2.out, if_pos (.inl (HI.out.2 hI))])
    have gI : decide (IX < 0) = true := decide_eq_true hI
    clear HE2 HI hI
    go_wp2_with (first | (with_reducible refine wpList_load_mid (op := Oper.mk (some 15) (Op.load 29 (Operand.tmp 2)) _ _ _ _) ?_ 29 (.tmp 2) ?_ k1 0 ?_ [.string p.name, .string p.cur, .int .i64 p.a.y, .int .i64 p.a.m, .int .i64 p.a.d, .int .i64 p.b.y, .int .i64 p.b.m, .int .i64 p.b.d, .slice ma p.meters.length mc, .slice fa p.fees.length fc, .slice (some ⟨b, o, none⟩) p.charges.length cc, .int .i64 p.line, .int .i64 p.col] _ RP.out Try.underlying29 ?_ ?_ ?_; rfl; rfl; go_simp; rfl; kernel_rfl) | fail)
    refine (cM.out w2 (Below.refl _ _)).mono ?_
    rintro e w3 ⟨rfl, b3⟩
    have B3 := hid b3
    clear b3 d0 BF RP cM
    obtain ⟨Y1, Y2, _, _, BW⟩ := X.out w3 B3.out
    have RP := hid (range_of Y1.cell)
    have d1 := Y2.cell 1 _ rfl; have d2 := Y2.cell 2 _ rfl; have d3 := Y2.cell 3 _ rfl; have d4 := Y2.cell 4 _ rfl; have d5 := Y2.cell 5 _ rfl; have d6 := Y2.cell 6 _ rfl; have d7 := Y2.cell 7 _ rfl
    have BF := hid BW
    clear Y1 Y2 BW
    clear RP d1 d2 d3 d4 d5 d6 d7
    go_wp2
    go_ret
    exact ⟨ret_i K.out.symm, BF.out⟩
  have gI : decide (IX < 0) = false := decide_eq_false hI
  have NI : Hid (¬ meterIx p.meters c.meter = none) := hid (fun h => hI (HI.out.1 h))
  clear hI HI
  go_wp2_with (first | (with_reducible refine wpList_load_mid (op := Oper.mk (some 15) (Op.load 29 (Operand.tmp 2)) _ _ _ _) ?_ 29 (.tmp 2) ?_ k1 0 ?_ [.string p.name, .string p.cur, .int .i64 p.a.y, .int .i64 p.a.m, .int .i64 p.a.d, .int .i64 p.b.y, .int .i64 p.b.m, .int .i64 p.b.d, .slice ma p.meters.length mc, .slice fa p.fees.length fc, .slice (some ⟨b, o, none⟩) p.charges.length cc, .int .i64 p.line, .int .i64 p.col] _ RP.out Try.underlying29 ?_ ?_ ?_; rfl; rfl; go_simp; rfl; kernel_rfl) | fail)
  refine (cM.out w2 (Below.refl _ _)).mono ?_
  rintro e w3 ⟨rfl, b3⟩
  have B3 := hid b3
  clear b3 d0 BF RP cM
  obtain ⟨Y1, Y2, _, _, BW⟩ := X.out w3 B3.out
  have RP := hid (range_of Y1.cell)
  have d1 := Y2.cell 1 _ rfl; have d2 := Y2.cell 2 _ rfl; have d3 := Y2.cell 3 _ rfl; have d4 := Y2.cell 4 _ rfl; have d5 := Y2.cell 5 _ rfl; have d6 := Y2.cell 6 _ rfl; have d7 := Y2.cell 7 _ rfl
  have BF := hid BW
  clear Y1 Y2 BW
  go_wp2_with (first | ((with_reducible refine wpList_load_midg (op := Oper.mk (some 21) (Op.load 29 (Operand.tmp 2)) _ _ _ _) ?_ 29 (.tmp 2) ?_ k1 0 ?_ [.string p.name, .string p.cur, .int .i64 p.a.y, .int .i64 p.a.m, .int .i64 p.a.d, .int .i64 p.b.y, .int .i64 p.b.m, .int .i64 p.b.d, .slice ma p.meters.length mc, .slice fa p.fees.length fc, .slice (some ⟨b, o, none⟩) p.charges.length cc, .int .i64 p.line, .int .i64 p.col] _ RP.out Try.underlying29 ?_ ?_ ?_); (first | (exact wantg rfl (by kernel_rfl) rfl)); rfl; go_simp; rfl; kernel_rfl) | fail)
  refine (cW.out w3).mono ?_
  rintro e w4 ⟨rfl, b4⟩
  have B4 := hid (bel_on B3.out b4)
  clear b4 BF RP cW d1 d2 d3 d4 d5 d6 d7 B3
  obtain ⟨Y1, Y2, _, _, BW⟩ := X.out w4 B4.out
  have d9 := Y2.cell 9 _ rfl
  have d11 := Y2.cell 11 _ rfl
  rw [← HNT.out] at d11
  have BF := hid BW
  clear Y1 Y2 BW
  by_cases hW : WB = false
  · have K : Hid (E = 5) := hid (by rw [HE2.out, if_pos (.inr (.inl hW))])
    clear d11 HE2
    subst hW
    go_wp2
    go_ret
    exact ⟨ret_i K.out.symm, BF.out⟩
  obtain rfl : WB = true := by simpa using hW
  by_cases h0 : c.block = 0
  · have K : Hid (E = 5) := hid (by rw [HE2.out, if_pos (.inr (.inr h0))])
    have g0 : (c.block == 0) = true := by rw [h0]; rfl
    clear d11 HE2 h0
    go_wp2
    go_ret
    exact ⟨ret_i K.out.symm, BF.out⟩
  have HE3 : Hid (E = if 8 < nT then 6 else if RB = false then 5 else if 6 < nA then 6 else 0) := hid (by rw [HE2.out, if_neg]; rintro (h | h | h); exact NI.out h; cases h; exact h0 h)
  have g0 : (c.block == 0) = false := by simpa using h0
  clear h0 HE2 NI
  by_cases h8 : 8 < nT
  · have K : Hid (E = 6) := hid (by rw [HE3.out, if_pos h8])
    have h8' : (8 : Int) < (nT : Int) := by omega
    clear HE3
    go_wp2
    go_ret
    exact ⟨ret_i K.out.symm, BF.out⟩
  have HE4 : Hid (E = if RB = false then 5 else if 6 < nA then 6 else 0) := hid (by rw [HE3.out, if_neg h8])
  have h8' : (nT : Int) ≤ 8 := by omega
  clear HE3 h8
  go_wp2_with fail
  refine (cR.out w4 B4.out).mono ?_
  rintro e w5 ⟨rfl, b5⟩
  have B5 := hid (bel_on B4.out b5)
  clear b5 BF cR d9 d11 B4
  obtain ⟨Y1, Y2, _, _, BW⟩ := X.out w5 B5.out
  have d13 := Y2.cell 13 _ rfl
  rw [← HNA.out] at d13
  have BF := hid BW
  clear Y1 Y2 BW
  by_cases hR : RB = false
  · have K : Hid (E = 5) := hid (by rw [HE4.out, if_pos hR])
    subst hR
    clear HE4 d13
    go_wp2
    go_ret
    exact ⟨ret_i K.out.symm, BF.out⟩
  have HE5 : Hid (E = if 6 < nA then 6 else 0) := hid (by rw [HE4.out, if_neg hR])
  obtain rfl : RB = true := by simpa using hR
  clear HE4
  by_cases h6 : 6 < nA
  · have K : Hid (E = 6) := hid (by rw [HE5.out, if_pos h6])
    have h6' : (6 : Int) < (nA : Int) := by omega
    go_wp2
    go_ret
    exact ⟨ret_i K.out.symm, BF.out⟩
  · have K : Hid (E = 0) := hid (by rw [HE5.out, if_neg h6])
    have h6' : (nA : Int) ≤ 6 := by omega
    go_wp2
    go_ret
    exact ⟨ret_i K.out.symm, BF.out⟩
theorem bel_drewN (w : World) (n : Nat) : Below w.heap.size w (w.drewN n) := ⟨rfl, rfl, rfl, Nat.le_refl _, fun _ _ => rfl⟩
theorem least2 (n a : Int) : bestOf ltB n [a] = if a < n then a else n := by unfold bestOf bestOf ltB; simp
theorem most2 (n a : Int) : bestOf gtB n [a] = if n < a then a else n := by unfold bestOf bestOf gtB; simp
theorem cells2 (w : World) (n a : Int) (t : TypeId) : Cells (w.alloc (.cells #[.int .i64 n, .int .i64 a] t)) w.heap.size 0 [n, a] := by
  intro i hi
  have hi2 : i < 2 := hi
  rw [show (0 + i) = i by omega, World.cell?_alloc_new]
  match i, hi2 with
  | 0, _ => rfl
  | 1, _ => rfl
set_option maxHeartbeats 8000000 in
set_option maxRecDepth 100000 in
theorem adjusted_any (a : Adj) (n : Int) (w : World) (h : AdjOk a) (hn : I64 n) :
    Calls Try.prog 46 #[.agg #[.int .i64 a.kind, .int .i64 a.num, .int .i64 a.mode], .int .i64 n] w fun e w' => ∃ (v : Int) (k : Bool), (e = .returned (.tuple #[.int .i64 v, .bool k]) ∧ Below w.heap.size w w') ∧ lim v k = adjStep n a ∧ I64 v := by
  obtain ⟨kd, an, am⟩ := a
  have g0 : 0 ≤ an := by rcases h with h | h; exact h.2.1.1; exact h.2.1.1
  have g1 : an ≤ 1000000000000 := by rcases h with h | h; have := h.2.1.2; (show an ≤ _); (have : an ≤ 100000000 := this); omega; exact h.2.1.2
  have g2 : kd = 1 ∨ kd = 2 ∨ kd = 3 ∨ kd = 4 := by rcases h with h | h; exact .inl h.1; exact .inr h.1
  have n0 := hn.1
  have ia : I64 an := by unfold I64; omega
  clear h
  obtain ⟨w1, hw1⟩ : ∃ W, W = w.alloc (.cells #[.int .i64 kd, .int .i64 an, .int .i64 am] 93) := ⟨_, rfl⟩
  have b1 := hid (show Below w.heap.size w w1 by rw [hw1]; exact bel_alloc _ _)
  have X1 : Box w1 w.heap.size [.int .i64 kd, .int .i64 an, .int .i64 am] := by rw [hw1]; exact Box.new _ _ _
  have d0 := X1.cell 0 _ rfl
  have d1 := X1.cell 1 _ rfl
  have HW := hid hw1
  clear hw1 X1
  rcases g2 with rfl | rfl | rfl | rfl
  · have c := hid (fun W => Rd.muldiv_any n an 100000 1 W hn ia (by unfold I64; omega))
    obtain ⟨N, hN⟩ : ∃ N, N = mdn (n * an) 100000 1 := ⟨_, rfl⟩
    obtain ⟨K, hK⟩ : ∃ N, N = mdb (n * an) 100000 1 := ⟨_, rfl⟩
    have SE : Hid (lim N K = adjStep n ⟨1, an, am⟩) := hid (by rw [hN, hK]; rfl)
    have iN := hid (show I64 N by rw [hN]; exact i64_mul _ _ _)
    rw [← hN, ← hK] at c
    clear hN hK hn ia
    go_enter Try.func46, Try.ntmps46
    go_upto_region 1 with fail
    rw [← HW.out]
    go_wp2_with fail
    refine (c.out w1).mono ?_
    rintro e w2 ⟨rfl, dd, rfl⟩
    have BF := hid (show Below w.heap.size w (w1.drewN dd) from bel_on b1.out (bel_drewN w1 dd))
    clear d0 d1 c
    go_wp2
    go_ret2
    exact ⟨N, K, ⟨rfl, BF.out⟩, SE.out, iN.out⟩
  · have c := hid (Ex.least_any w1.heap.size 0 2 n [an] (w1.alloc (.cells #[.int .i64 n, .int .i64 an] 3)) (cells2 _ _ _ _) (by simp) (by simp))
    rw [least2] at c
    obtain ⟨N, hN⟩ : ∃ N, N = if an < n then an else n := ⟨_, rfl⟩
    have SE : Hid (lim N true = adjStep n ⟨2, an, am⟩) := hid (by rw [hN]; rfl)
    have iN := hid (show I64 N by rw [hN]; split; exact ia; exact hn)
    rw [← hN] at c
    have BF := hid (bel_on b1.out (bel_alloc w1 (.cells #[.int .i64 n, .int .i64 an] 3)))
    clear hN hn ia
    go_enter Try.func46, Try.ntmps46
    go_upto_region 1 with fail
    rw [← HW.out]
    go_wp2_with fail
    refine c.out.mono ?_
    rintro e w2 ⟨rfl, rfl⟩
    clear d0 d1 c
    go_wp2
    go_ret2
    exact ⟨N, true, ⟨rfl, BF.out⟩, SE.out, iN.out⟩
  · have c := hid (Ex.most_any w1.heap.size 0 2 n [an] (w1.alloc (.cells #[.int .i64 n, .int .i64 an] 3)) (cells2 _ _ _ _) (by simp) (by simp))
    rw [most2] at c
    obtain ⟨N, hN⟩ : ∃ N, N = if n < an then an else n := ⟨_, rfl⟩
    have SE : Hid (lim N true = adjStep n ⟨3, an, am⟩) := hid (by rw [hN]; rfl)
    have iN := hid (show I64 N by rw [hN]; split; exact ia; exact hn)
    rw [← hN] at c
    have BF := hid (bel_on b1.out (bel_alloc w1 (.cells #[.int .i64 n, .int .i64 an] 3)))
    clear hN hn ia
    go_enter Try.func46, Try.ntmps46
    go_upto_region 1 with fail
    rw [← HW.out]
    go_wp2_with fail
    refine c.out.mono ?_
    rintro e w2 ⟨rfl, rfl⟩
    clear d0 d1 c
    go_wp2
    go_ret2
    exact ⟨N, true, ⟨rfl, BF.out⟩, SE.out, iN.out⟩
  · have c := hid (fun W => Ex.add_any n an W hn ia)
    obtain ⟨N, hN⟩ : ∃ N, N = cut64 (n + an) := ⟨_, rfl⟩
    obtain ⟨K, hK⟩ : ∃ N, N = ok64 (n + an) := ⟨_, rfl⟩
    have SE : Hid (lim N K = adjStep n ⟨4, an, am⟩) := hid (by rw [hN, hK]; rfl)
    have iN := hid (show I64 N by rw [hN]; exact i64_cut _)
    rw [← hN, ← hK] at c
    clear hN hK hn ia
    go_enter Try.func46, Try.ntmps46
    go_upto_region 1 with fail
    rw [← HW.out]
    go_wp2_with fail
    refine (c.out w1).mono ?_
    rintro e w2 ⟨rfl, rfl⟩
    clear d0 d1 c
    go_wp2
    go_ret2
    exact ⟨N, K, ⟨rfl, b1.out⟩, SE.out, iN.out⟩
end Go.Proofs.Ytnhhhnngocdagaa.Cc

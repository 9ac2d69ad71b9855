/- Package check, walked: days, holds, horizon, rising, greatest, below. -/
import Derived.Test.YtnhhhnngocdagaaDoorJRef9f
import Derived.Test.YtnhhhnngocdagaaDoorJRound
import Derived.Test.YtnhhhnngocdagaaDoorJPureD
import Derived.Test.YtnhhhnngocdagaaDoorJRef6d
import Derived.Deep.RegionHeldLaw
import Derived.Deep.RegionHeld3
import Derived.BigQuiet
import Derived.Lib.QuietBelow
import Derived.WalkKit
import Derived.ProofKit
import Derived.Test.YtnhhhnngocdagaaDoorJRef6
import Derived.Deep.MidRow
import Derived.Deep.WholeRow
import Derived.Deep.CutBlock
import Derived.Deep.CutRange
import Derived.Deep.DeepCutAuto
import Derived.Test.YtnhhhnngocdagaaDoorJMem
namespace Go.Proofs.YtnhhhnngocdagaaDoor.Cc
open Go.RowKit Go.Sort P Mm Md R6 L06 R9
theorem num4 (d : Day) (h : DayOk d) (w : World) : Calls Tryd.prog 49 #[.agg #[.int .i64 d.y, .int .i64 d.m, .int .i64 d.d]] w fun e w' => e = .returned (.tuple #[.int .i64 (dn d), .bool true]) ∧ Below w.heap.size w w' := Dt.number_yes d.y d.m d.d w h
theorem ret_d {a b : Int} {k : IntKind} {w w' : World} {B : Nat} (h : a = b) (x : Below B w w') : (Ending.returned (.int k a) : Ending) = .returned (.int k b) ∧ Below B w w' := ⟨by rw [h], x⟩
set_option maxHeartbeats 4000000 in
theorem days_any (x y : Day) (w : World) (gx : DayOk x) (gy : DayOk y) : Calls Tryd.prog 32 #[.agg #[.int .i64 x.y, .int .i64 x.m, .int .i64 x.d], .agg #[.int .i64 y.y, .int .i64 y.m, .int .i64 y.d]] w fun e w' => e = .returned (.int .i64 (dn y - dn x)) ∧ Below w.heap.size w w' := by
  obtain ⟨w2, hw2⟩ : ∃ W, W = (w.alloc (.cells #[.int .i64 x.y, .int .i64 x.m, .int .i64 x.d] 24)).alloc (.cells #[.int .i64 y.y, .int .i64 y.m, .int .i64 y.d] 24) := ⟨_, rfl⟩
  have b2 : Below w.heap.size w w2 := by rw [hw2]; exact bel_on (bel_alloc _ _) (bel_alloc _ _)
  have X2 : Box w2 (w.heap.size + 1) [.int .i64 y.y, .int .i64 y.m, .int .i64 y.d] := by rw [hw2]; have := Box.new (w.alloc (.cells #[.int .i64 x.y, .int .i64 x.m, .int .i64 x.d] 24)) [.int .i64 y.y, .int .i64 y.m, .int .i64 y.d] 24; simpa using this
  have X1 : Box w2 w.heap.size [.int .i64 x.y, .int .i64 x.m, .int .i64 x.d] := by rw [hw2]; exact (Box.new w [.int .i64 x.y, .int .i64 x.m, .int .i64 x.d] 24).on (bel_alloc _ _)
  obtain ⟨A, hA⟩ : ∃ A, A = dn x := ⟨_, rfl⟩
  obtain ⟨B, hB⟩ : ∃ A, A = dn y := ⟨_, rfl⟩
  have cA := hid (num4 x gx)
  have cB := hid (num4 y gy)
  have ra := num_range gx
  have rb := num_range gy
  rw [← hA] at cA ra ⊢
  rw [← hB] at cB rb ⊢
  have d0 := X1.cell 0 _ rfl
  have d1 := X1.cell 1 _ rfl
  have d2 := X1.cell 2 _ rfl
  have HX := hid (fun W (b : Below w2.heap.size w2 W) => (⟨X2.on b, bel_on b2 b⟩ : Box W (w.heap.size + 1) _ ∧ Below w.heap.size w W))
  have HW := hid hw2
  clear hA hB b2 X1 X2 hw2
  go_enter Tryd.func32, Tryd.ntmps32
  go_upto_region 1 with fail
  rw [← HW.out]
  clear HW
  go_wp2_with fail
  refine (cA.out w2).mono ?_
  rintro e w3 ⟨rfl, b3⟩
  obtain ⟨Y, BW⟩ := HX.out w3 b3
  have e0 := Y.cell 0 _ rfl
  have e1 := Y.cell 1 _ rfl
  have e2 := Y.cell 2 _ rfl
  have BF := hid BW
  clear Y BW b3 d0 d1 d2 cA
  go_wp2_with fail
  refine (cB.out w3).mono ?_
  rintro e w4 ⟨rfl, b4⟩
  have BG := hid (bel_on BF.out b4)
  clear b4 e0 e1 e2 cB HX BF
  obtain ⟨ra0, ra1⟩ := ra
  obtain ⟨rb0, rb1⟩ := rb
  go_wp2
  go_ret
  exact ret_d rfl BG.out
set_option maxHeartbeats 4000000 in
set_option maxRecDepth 100000 in
theorem holds_any (p : Plan) (x : Win) (ma : Option Addr) (mc : Nat) (fa : Option Addr) (fc : Nat) (ca : Option Addr) (cc : Nat) (w : World) (gp : DayOk p.a ∧ DayOk p.b) (gx : WinOk x) :
    Calls Tryd.prog 34 #[.agg #[.string p.name, .string p.cur, .int .i64 p.a.y, .int .i64 p.a.m, .int .i64 p.a.d, .int .i64 p.b.y, .int .i64 p.b.m, .int .i64 p.b.d, .slice ma p.meters.length mc, .slice fa p.fees.length fc, .slice ca p.charges.length cc, .int .i64 p.line, .int .i64 p.col], .agg #[.bool x.has, .int .i64 x.a.y, .int .i64 x.a.m, .int .i64 x.a.d, .int .i64 x.b.y, .int .i64 x.b.m, .int .i64 x.b.d]] w fun e w' => e = .returned (.bool (winIn p x)) ∧ Below w.heap.size w w' := by
  cases hx : x.has with
  | false =>
    have e : winIn p x = true := by unfold winIn; rw [hx]; rfl
    rw [e]
    have BB := hid (bel_on (bel_alloc w (.cells [.string p.name, .string p.cur, .int .i64 p.a.y, .int .i64 p.a.m, .int .i64 p.a.d, .int .i64 p.b.y, .int .i64 p.b.m, .int .i64 p.b.d, .slice ma p.meters.length mc, .slice fa p.fees.length fc, .slice ca p.charges.length cc, .int .i64 p.line, .int .i64 p.col].toArray 29)) (bel_alloc (w.alloc (.cells [.string p.name, .string p.cur, .int .i64 p.a.y, .int .i64 p.a.m, .int .i64 p.a.d, .int .i64 p.b.y, .int .i64 p.b.m, .int .i64 p.b.d, .slice ma p.meters.length mc, .slice fa p.fees.length fc, .slice ca p.charges.length cc, .int .i64 p.line, .int .i64 p.col].toArray 29)) (.cells [.bool false, .int .i64 x.a.y, .int .i64 x.a.m, .int .i64 x.a.d, .int .i64 x.b.y, .int .i64 x.b.m, .int .i64 x.b.d].toArray 48)))
    clear gp gx hx e
    go_enter Tryd.func34, Tryd.ntmps34
    go_wp2
    go_ret
    exact ⟨rfl, BB.out⟩
  | true =>
    obtain ⟨ga, gb⟩ : DayOk x.a ∧ DayOk x.b := by
      rcases gx with ⟨_, h⟩ | h
      · exact h
      · rw [h] at hx; cases hx
    obtain ⟨w1, hw1⟩ : ∃ W, W = w.alloc (.cells [.string p.name, .string p.cur, .int .i64 p.a.y, .int .i64 p.a.m, .int .i64 p.a.d, .int .i64 p.b.y, .int .i64 p.b.m, .int .i64 p.b.d, .slice ma p.meters.length mc, .slice fa p.fees.length fc, .slice ca p.charges.length cc, .int .i64 p.line, .int .i64 p.col].toArray 29) := ⟨_, rfl⟩
    obtain ⟨k1, hk1⟩ : ∃ k, k = w.heap.size := ⟨_, rfl⟩
    have X1 : Box w1 k1 [.string p.name, .string p.cur, .int .i64 p.a.y, .int .i64 p.a.m, .int .i64 p.a.d, .int .i64 p.b.y, .int .i64 p.b.m, .int .i64 p.b.d, .slice ma p.meters.length mc, .slice fa p.fees.length fc, .slice ca p.charges.length cc, .int .i64 p.line, .int .i64 p.col] := by rw [hw1, hk1]; exact Box.new _ _ _
    have b1 : Below w.heap.size w w1 := by rw [hw1]; exact bel_alloc _ _
    obtain ⟨w2, hw2⟩ : ∃ W, W = w1.alloc (.cells [.bool true, .int .i64 x.a.y, .int .i64 x.a.m, .int .i64 x.a.d, .int .i64 x.b.y, .int .i64 x.b.m, .int .i64 x.b.d].toArray 48) := ⟨_, rfl⟩
    obtain ⟨k2, hk2⟩ : ∃ k, k = w1.heap.size := ⟨_, rfl⟩
    have X2 : Box w2 k2 [.bool true, .int .i64 x.a.y, .int .i64 x.a.m, .int .i64 x.a.d, .int .i64 x.b.y, .int .i64 x.b.m, .int .i64 x.b.d] := by rw [hw2, hk2]; exact Box.new _ _ _
    have b2 : Below w1.heap.size w1 w2 := by rw [hw2]; exact bel_alloc _ _
    have hk3 : k2 = w.heap.size + 1 := by rw [hk2, hw1]; simp
    have X := hid (fun (W : World) (b : Below w2.heap.size w2 W) => (⟨(X1.on b2).on b, X2.on b, bel_on (bel_on b1 b2) b⟩ : Box W k1 _ ∧ Box W k2 _ ∧ Below w.heap.size w W))
    obtain ⟨D1, hD1⟩ : ∃ A, A = dn x.b - dn x.a := ⟨_, rfl⟩
    obtain ⟨D2, hD2⟩ : ∃ A, A = dn x.a - dn p.a := ⟨_, rfl⟩
    obtain ⟨D3, hD3⟩ : ∃ A, A = dn p.b - dn x.b := ⟨_, rfl⟩
    have c1 := hid (fun W => days_any x.a x.b W ga gb)
    have c2 := hid (fun W => days_any p.a x.a W gp.1 ga)
    have c3 := hid (fun W => days_any x.b p.b W gb gp.2)
    rw [← hD1] at c1
    rw [← hD2] at c2
    rw [← hD3] at c3
    obtain ⟨R, hR⟩ : ∃ R : Bool, R = (decide (0 ≤ D1) && decide (0 ≤ D2) && decide (0 ≤ D3)) := ⟨_, rfl⟩
    have e : winIn p x = R := by
      unfold winIn
      rw [hx, hR, hD1, hD2, hD3, show decide (0 ≤ dn x.b - dn x.a) = decide (dn x.a ≤ dn x.b) by rw [decide_eq_decide]; omega, show decide (0 ≤ dn x.a - dn p.a) = decide (dn p.a ≤ dn x.a) by rw [decide_eq_decide]; omega, show decide (0 ≤ dn p.b - dn x.b) = decide (dn x.b ≤ dn p.b) by rw [decide_eq_decide]; omega]
      rfl
    rw [e]
    have HR := hid hR
    have d0 := X2.cell 0 _ rfl; have d1 := X2.cell 1 _ rfl; have d2 := X2.cell 2 _ rfl; have d3 := X2.cell 3 _ rfl; have d4 := X2.cell 4 _ rfl; have d5 := X2.cell 5 _ rfl; have d6 := X2.cell 6 _ rfl
    have HW := hid (show w2 = (w.alloc (.cells [.string p.name, .string p.cur, .int .i64 p.a.y, .int .i64 p.a.m, .int .i64 p.a.d, .int .i64 p.b.y, .int .i64 p.b.m, .int .i64 p.b.d, .slice ma p.meters.length mc, .slice fa p.fees.length fc, .slice ca p.charges.length cc, .int .i64 p.line, .int .i64 p.col].toArray 29)).alloc (.cells [.bool true, .int .i64 x.a.y, .int .i64 x.a.m, .int .i64 x.a.d, .int .i64 x.b.y, .int .i64 x.b.m, .int .i64 x.b.d].toArray 48) by rw [hw2, hw1])
    have HK1 := hid hk1
    have HK3 := hid hk3
    have BF0 := hid (X.out w2 (Below.refl _ _)).2.2
    clear hD1 hD2 hD3 hR e hw1 hw2 b1 b2 X1 X2 hk1 hk2 hk3 ga gb gx gp hx
    go_enter Tryd.func34, Tryd.ntmps34
    go_upto_region 1 with fail
    rw [← HW.out, ← HK3.out, ← HK1.out]
    clear HW HK1 HK3
    by_cases h1 : 0 ≤ D1
    · have g1 : decide (0 ≤ D1) = true := decide_eq_true h1
      by_cases h2 : 0 ≤ D2
      · have g2 : decide (0 ≤ D2) = true := decide_eq_true h2
        have K : Hid (R = decide (0 ≤ D3)) := hid (by rw [HR.out, g1, g2]; rfl)
        go_wp2_with fail
        refine (c1.out w2).mono ?_
        rintro e w3 ⟨rfl, b3⟩
        have B3 := hid b3
        clear b3 d0 d1 d2 d3 d4 d5 d6 BF0
        obtain ⟨Y1, Y2, BW⟩ := X.out _ B3.out
        have a2 := Y1.cell 2 _ rfl
        have a3 := Y1.cell 3 _ rfl
        have a4 := Y1.cell 4 _ rfl
        have z1 := Y2.cell 1 _ rfl
        have z2 := Y2.cell 2 _ rfl
        have z3 := Y2.cell 3 _ rfl
        clear Y1 Y2 BW
        go_wp2_with fail
        refine (c2.out w3).mono ?_
        rintro e w4 ⟨rfl, b4⟩
        have B4 := hid (bel_on B3.out b4)
        clear b4 a2 a3 a4 z1 z2 z3 B3
        obtain ⟨Y1, Y2, BW⟩ := X.out _ B4.out
        have a5 := Y1.cell 5 _ rfl
        have a6 := Y1.cell 6 _ rfl
        have a7 := Y1.cell 7 _ rfl
        have z4 := Y2.cell 4 _ rfl
        have z5 := Y2.cell 5 _ rfl
        have z6 := Y2.cell 6 _ rfl
        clear Y1 Y2 BW
        go_wp2_with fail
        refine (c3.out w4).mono ?_
        rintro e w5 ⟨rfl, b5⟩
        have B5 := hid (X.out _ (bel_on B4.out b5)).2.2
        clear b5 a5 a6 a7 z4 z5 z6 B4
        by_cases h3 : 0 ≤ D3
        · have K2 : Hid (R = true) := hid (by rw [K.out, decide_eq_true h3])
          have g3 : decide (0 ≤ D3) = true := decide_eq_true h3
          clear K HR
          go_wp2
          go_ret
          exact rb_of (by rw [K2.out] <;> first | exact decide_eq_true h3) B5.out
        · have K2 : Hid (R = false) := hid (by rw [K.out, decide_eq_false h3])
          have g3 : decide (0 ≤ D3) = false := decide_eq_false h3
          clear K HR
          go_wp2
          go_ret
          exact rb_of (by rw [K2.out] <;> first | exact decide_eq_false h3) B5.out
      · have g2 : decide (0 ≤ D2) = false := decide_eq_false h2
        have K : Hid (R = false) := hid (by rw [HR.out, g1, g2]; rfl)
        go_wp2_with fail
        refine (c1.out w2).mono ?_
        rintro e w3 ⟨rfl, b3⟩
        have B3 := hid b3
        clear b3 d0 d1 d2 d3 d4 d5 d6 BF0
        obtain ⟨Y1, Y2, BW⟩ := X.out _ B3.out
        have a2 := Y1.cell 2 _ rfl
        have a3 := Y1.cell 3 _ rfl
        have a4 := Y1.cell 4 _ rfl
        have z1 := Y2.cell 1 _ rfl
        have z2 := Y2.cell 2 _ rfl
        have z3 := Y2.cell 3 _ rfl
        clear Y1 Y2 BW
        go_wp2_with fail
        refine (c2.out w3).mono ?_
        rintro e w4 ⟨rfl, b4⟩
        have BF := hid (X.out _ (bel_on B3.out b4)).2.2
        clear b4 a2 a3 a4 z1 z2 z3 B3
        go_wp2
        go_ret
        exact ⟨ret_b K.out.symm, BF.out⟩
    · have g1 : decide (0 ≤ D1) = false := decide_eq_false h1
      have K : Hid (R = false) := hid (by rw [HR.out, g1]; rfl)
      go_wp2_with fail
      refine (c1.out w2).mono ?_
      rintro e w3 ⟨rfl, b3⟩
      have BF := hid (X.out _ b3).2.2
      clear b3 d0 d1 d2 d3 d4 d5 d6 BF0
      go_wp2
      go_ret
      exact ⟨ret_b K.out.symm, BF.out⟩
set_option maxHeartbeats 4000000 in
set_option maxRecDepth 100000 in
theorem horizon_any (p : Plan) (ma : Option Addr) (mc : Nat) (fa : Option Addr) (fc : Nat) (ca : Option Addr) (cc : Nat) (w : World) (gp : DayOk p.a ∧ DayOk p.b) :
    Calls Tryd.prog 11 #[.agg #[.string p.name, .string p.cur, .int .i64 p.a.y, .int .i64 p.a.m, .int .i64 p.a.d, .int .i64 p.b.y, .int .i64 p.b.m, .int .i64 p.b.d, .slice ma p.meters.length mc, .slice fa p.fees.length fc, .slice ca p.charges.length cc, .int .i64 p.line, .int .i64 p.col]] w fun e w' => e = .returned (.int .i64 (headE p)) ∧ Below w.heap.size w w' := by
  obtain ⟨w1, hw1⟩ : ∃ W, W = w.alloc (.cells [.string p.name, .string p.cur, .int .i64 p.a.y, .int .i64 p.a.m, .int .i64 p.a.d, .int .i64 p.b.y, .int .i64 p.b.m, .int .i64 p.b.d, .slice ma p.meters.length mc, .slice fa p.fees.length fc, .slice ca p.charges.length cc, .int .i64 p.line, .int .i64 p.col].toArray 29) := ⟨_, rfl⟩
  obtain ⟨k1, hk1⟩ : ∃ k, k = w.heap.size := ⟨_, rfl⟩
  have X1 : Box w1 k1 [.string p.name, .string p.cur, .int .i64 p.a.y, .int .i64 p.a.m, .int .i64 p.a.d, .int .i64 p.b.y, .int .i64 p.b.m, .int .i64 p.b.d, .slice ma p.meters.length mc, .slice fa p.fees.length fc, .slice ca p.charges.length cc, .int .i64 p.line, .int .i64 p.col] := by rw [hw1, hk1]; exact Box.new _ _ _
  have b1 := hid (show Below w.heap.size w w1 by rw [hw1]; exact bel_alloc _ _)
  have c1 := hid (fun W => days_any p.a p.b W gp.1 gp.2)
  obtain ⟨D, hD⟩ : ∃ A, A = dn p.b - dn p.a := ⟨_, rfl⟩
  have ra := num_range gp.1
  have rb := num_range gp.2
  rw [← hD] at c1
  have d0 : -4000000 ≤ D := by omega
  have d1 : D ≤ 4000000 := by omega
  obtain ⟨R, hR⟩ : ∃ R, R = headE p := ⟨_, rfl⟩
  have HR : Hid (R = if D + 1 < 1 then 5 else if 4000 < D + 1 then 6 else 0) := hid (by rw [hR, hD]; rfl)
  rw [← hR]
  have e2 := X1.cell 2 _ rfl; have e3 := X1.cell 3 _ rfl; have e4 := X1.cell 4 _ rfl; have e5 := X1.cell 5 _ rfl; have e6 := X1.cell 6 _ rfl; have e7 := X1.cell 7 _ rfl
  have HW := hid hw1
  have HK := hid hk1
  clear hR hD ra rb gp X1 hw1 hk1
  go_enter Tryd.func11, Tryd.ntmps11
  go_upto_region 1 with fail
  rw [← HW.out, ← HK.out]
  clear HW HK
  go_wp2_with fail
  refine (c1.out w1).mono ?_
  rintro e w2 ⟨rfl, b2⟩
  have BF := hid (bel_on b1.out b2)
  clear b2 e2 e3 e4 e5 e6 e7 c1 b1
  by_cases g1 : D < 0
  · have K : Hid (R = 5) := hid (by rw [HR.out, if_pos (by omega)])
    go_wp2
    go_ret
    exact ⟨ret_i K.out.symm, BF.out⟩
  by_cases g2 : 4000 < D + 1
  · have K : Hid (R = 6) := hid (by rw [HR.out, if_neg (by omega), if_pos g2])
    go_wp2
    go_ret
    exact ⟨ret_i K.out.symm, BF.out⟩
  · have K : Hid (R = 0) := hid (by rw [HR.out, if_neg (by omega), if_neg g2])
    go_wp2
    go_ret
    exact ⟨ret_i K.out.symm, BF.out⟩
set_option maxHeartbeats 4000000 in
theorem below_any (n : Int) (b : Bool) (w : World) : Calls Tryd.prog 20 #[.int .i64 n, .bool b] w fun e w' => e = .returned (.tuple #[.int .i64 ((lim n b).getD 0), .bool (lim n b).isSome]) ∧ w' = w := by
  cases b with
  | false =>
    have E : Hid (lim n false = none) := hid (lim_f rfl)
    go_enter Tryd.func20, Tryd.ntmps20
    go_wp2
    go_ret2
    exact ⟨ret_n E.out, rfl⟩
  | true =>
    by_cases hg : 1152921504606846976 ≤ n
    · have E : Hid (lim n true = none) := hid (lim_g hg)
      go_enter Tryd.func20, Tryd.ntmps20
      go_wp2
      go_ret2
      exact ⟨ret_n E.out, rfl⟩
    · have E : Hid (lim n true = some n) := hid (lim_t rfl (by unfold maxBound; omega))
      go_enter Tryd.func20, Tryd.ntmps20
      go_wp2
      go_ret2
      exact ⟨ret_v E.out, rfl⟩
set_option maxHeartbeats 4000000 in
set_option maxRecDepth 100000 in
theorem greatest_any (l : List Tier) (ta : Option Addr) (tc : Nat) (w : World) (hx : Row tTier w ta l.length tc l) :
    Calls Tryd.prog 56 #[.slice ta l.length tc] w fun e w' => e = .returned (.int .i64 (topRate l)) ∧ Below w.heap.size w w' := by
  obtain ⟨n, hn⟩ : ∃ n, n = l.length := ⟨_, rfl⟩
  have u1 := hx.hcap
  have u2 := hx.hmax
  obtain ⟨R, hR⟩ : ∃ R, R = topRate l := ⟨_, rfl⟩
  rw [← hR]
  have HR := hid hR
  rw [← hn] at hx u1 ⊢
  have HX := hid hx
  have HN := hid hn
  clear hR hx hn
  go_enter Tryd.func56, Tryd.ntmps56
  go_wp2
  go_loopw [3, 8] (fun v i wr => ∃ (i' : Nat), v = .int .i64 (topRate (l.take i')) ∧ i = .int .i64 (i' : Int) ∧ i' ≤ n ∧ Hid (Below w.heap.size w wr)) (fun _ i _ => n - (intOf i).toNat)
  case atStart => exact ⟨0, rfl, rfl, Nat.zero_le _, hid (Below.refl _ _)⟩
  case round =>
    obtain ⟨i', rfl, rfl, hi, hB⟩ := hrel
    by_cases hlt : i' < n
    · obtain ⟨t, hti⟩ : ∃ m, l[i']? = some m := ⟨_, List.getElem?_eq_getElem (by have := HN.out; omega)⟩
      have ST := hid (topRate_step hti)
      obtain ⟨b, o, e, lb, a0, a1, _⟩ := tier_at (HX.out.on hB.out) hti
      have B2 := hid (bel_on hB.out (bel_alloc _ (.cells [.int .i64 t.upto, .int .i64 t.rate].toArray 86)))
      obtain ⟨tr, htr⟩ : ∃ x, x = topRate (l.take i') := ⟨_, rfl⟩
      rw [← htr] at ST ⊢
      clear hti htr
      subst e
      go_wp2
      go_roundw
      case rel => exact ⟨i' + 1, by rw [ST.out], by simp, by omega, B2⟩
      case measure => simp [intOf]; omega
    · obtain rfl : i' = n := by omega
      have ET : Hid (topRate (l.take i') = R) := hid (by rw [HN.out, List.take_length, HR.out])
      go_wp2
      go_ret
      exact ⟨ret_i ET.out, hB.out⟩
set_option maxHeartbeats 4000000 in
set_option maxRecDepth 100000 in
theorem rising_any (l : List Tier) (ta : Option Addr) (tc : Nat) (w : World) (hx : Row tTier w ta l.length tc l) (hl : l.length ≤ 100000) :
    Calls Tryd.prog 35 #[.slice ta l.length tc] w fun e w' => e = .returned (.bool (risesB 0 l)) ∧ Below w.heap.size w w' := by
  obtain ⟨n, hn⟩ : ∃ n, n = l.length := ⟨_, rfl⟩
  have u1 := hx.hcap
  have u2 := hx.hmax
  obtain ⟨R, hR⟩ : ∃ R, R = risesB 0 l := ⟨_, rfl⟩
  rw [← hR]
  have HR := hid hR
  rw [← hn] at hx u1 hl ⊢
  have HX := hid hx
  have HN := hid hn
  have hl1 : (n : Int) ≤ 100000 := by omega
  clear hR hx hn hl
  go_enter Tryd.func35, Tryd.ntmps35
  go_wp2
  go_loopw [3, 8] (fun v i wr => ∃ (i' : Nat) (u : Int), v = .int .i64 u ∧ i = .int .i64 (i' : Int) ∧ i' ≤ n ∧ 0 ≤ u ∧ Hid (R = risesB u (l.drop i')) ∧ Hid (Below w.heap.size w wr)) (fun _ i _ => n - (intOf i).toNat)
  case atStart => exact ⟨0, 0, rfl, rfl, Nat.zero_le _, Int.le_refl _, hid HR.out, hid (Below.refl _ _)⟩
  case round =>
    obtain ⟨i', u, rfl, rfl, hi, hu, hE, hB⟩ := hrel
    by_cases hlt : i' + 1 < n
    · obtain ⟨t, hti⟩ : ∃ m, l[i']? = some m := ⟨_, List.getElem?_eq_getElem (by have := HN.out; omega)⟩
      have st := rises_step (u := u) hti (by have := HN.out; omega)
      obtain ⟨b, o, e, lb, a0, a1, _⟩ := tier_at (HX.out.on hB.out) hti
      have lt1 : i' < n := by omega
      subst e
      by_cases hg : t.upto ≤ u
      · have K : Hid (R = false) := hid (by rw [hE.out, st, show decide (u < t.upto) = false from decide_eq_false (by omega), Bool.and_false]; rfl)
        clear hti st hE a1
        go_wp2
        go_ret
        exact ⟨ret_b K.out.symm, hB.out⟩
      · have K : Hid (R = risesB t.upto (l.drop (i' + 1))) := hid (by rw [hE.out, st, show decide (1 ≤ t.upto) = true from decide_eq_true (by omega), show decide (u < t.upto) = true from decide_eq_true (by omega)]; rfl)
        have t0 : 0 ≤ t.upto := by omega
        clear hti st hE a1
        go_wp2
        go_roundw
        case rel => exact ⟨i' + 1, t.upto, rfl, by simp, by omega, t0, K, hB⟩
        case measure => simp [intOf]; omega
    · have K : Hid (R = true) := hid (by rw [hE.out, rises_stop (by have := HN.out; omega)])
      clear hE
      go_wp2
      go_ret
      exact ⟨ret_b K.out.symm, hB.out⟩
end Go.Proofs.YtnhhhnngocdagaaDoor.Cc
/- Package tree, walked: a meter, a fee without its place; whether two are one. -/
namespace Go.Proofs.YtnhhhnngocdagaaDoor.Te
open Go.RowKit Go.Sort P Mm Tl
theorem bel_alloc2 (w : World) (x y : Obj) : Below w.heap.size w ((w.alloc x).alloc y) := bel_on (bel_alloc w x) (bel_alloc _ y)
/-- Whether two are one, but for places. -/
def sameM (m n : Meter) : Bool := (m.name.toList == n.name.toList) && (m.unit.toList == n.unit.toList) && (m.max == n.max)
/-- Whether two are one, but for places. -/
def sameF (m n : Fee) : Bool := (m.amount == n.amount) && (m.win.has == n.win.has) && (m.win.a.y == n.win.a.y) && (m.win.a.m == n.win.a.m) && (m.win.a.d == n.win.a.d) && (m.win.b.y == n.win.b.y) && (m.win.b.m == n.win.b.m) && (m.win.b.d == n.win.b.d)
end Go.Proofs.YtnhhhnngocdagaaDoor.Te
/- Package tree, walked: rows held against each other, one by one. -/
namespace Go.Proofs.YtnhhhnngocdagaaDoor.Te
open Go.RowKit Go.Sort P Mm R6 Tl
/-- Two rows of one length are alike, one by one. -/
def eqL {α : Type} (f : α → α → Bool) : List α → List α → Bool
  | [], [] => true
  | x :: xs, y :: ys => f x y && eqL f xs ys
  | _, _ => false
theorem eqL_len {α : Type} {f : α → α → Bool} : ∀ {xs ys : List α}, xs.length ≠ ys.length → eqL f xs ys = false
  | [], [], h => absurd rfl h
  | [], _ :: _, _ => rfl
  | _ :: _, [], _ => rfl
  | x :: xs, y :: ys, h => by
    rw [eqL, eqL_len (by simpa using h), Bool.and_false]
theorem eqL_drop {α : Type} {f : α → α → Bool} {xs ys : List α} {i : Nat} {x y : α} (hx : xs[i]? = some x) (hy : ys[i]? = some y) : eqL f (xs.drop i) (ys.drop i) = (f x y && eqL f (xs.drop (i + 1)) (ys.drop (i + 1))) := by
  obtain ⟨hl, e⟩ := List.getElem?_eq_some_iff.1 hx
  obtain ⟨hl2, e2⟩ := List.getElem?_eq_some_iff.1 hy
  rw [List.drop_eq_getElem_cons hl, List.drop_eq_getElem_cons hl2, eqL, e, e2]
theorem eqL_end {α : Type} {f : α → α → Bool} {xs ys : List α} {i : Nat} (hx : xs.length ≤ i) (hy : ys.length ≤ i) : eqL f (xs.drop i) (ys.drop i) = true := by
  rw [List.drop_eq_nil_of_le hx, List.drop_eq_nil_of_le hy]; rfl
theorem bel_two {w wr w' : World} (x y : Obj) (h : Below w.heap.size w wr) (b : Below ((wr.alloc x).alloc y).heap.size ((wr.alloc x).alloc y) w') : Below w.heap.size w w' := bel_on (bel_on h (bel_alloc2 wr x y)) b
def beqT (x y : Tier) : Bool := decide (x = y)
def beqA (x y : Adj) : Bool := decide (x = y)
end Go.Proofs.YtnhhhnngocdagaaDoor.Te
/- Package tree, walked: charges held against each other. -/
namespace Go.Proofs.YtnhhhnngocdagaaDoor.Te
open Go.RowKit Go.Sort P Mm R6 Tl
/-- Whether two charges are one, but for places. -/
def sameC (c d : Charge) : Bool := (c.meter.toList == d.meter.toList) && (c.win.has == d.win.has) && (c.win.a.y == d.win.a.y) && (c.win.a.m == d.win.a.m) && (c.win.a.d == d.win.a.d) && (c.win.b.y == d.win.b.y) && (c.win.b.m == d.win.b.m) && (c.win.b.d == d.win.b.d) && (c.allowance == d.allowance) && (c.block == d.block) && (c.kind == d.kind) && (c.mode == d.mode) && eqL beqT c.tiers d.tiers && eqL beqA c.adjusts d.adjusts
theorem cell1 {w : World} {a : List Value} {t : TypeId} {j : Nat} {v : Value} (h : a[j]? = some v) : (w.alloc (.cells a.toArray t)).cell? ⟨w.heap.size, j, none⟩ = some v := by
  rw [World.cell?_alloc_new]
  simpa using h
theorem cell2a {w : World} {a b : List Value} {t u : TypeId} {j : Nat} {v : Value} (h : a[j]? = some v) : ((w.alloc (.cells a.toArray t)).alloc (.cells b.toArray u)).cell? ⟨w.heap.size, j, none⟩ = some v := by
  rw [(bel_alloc (w.alloc (.cells a.toArray t)) (.cells b.toArray u)).cell (by simp)]
  exact cell1 h
theorem cell2b {w : World} {a b : List Value} {t u : TypeId} {j : Nat} {v : Value} (h : b[j]? = some v) : ((w.alloc (.cells a.toArray t)).alloc (.cells b.toArray u)).cell? ⟨w.heap.size + 1, j, none⟩ = some v := by
  have := cell1 (w := w.alloc (.cells a.toArray t)) (t := u) h
  rwa [show (w.alloc (.cells a.toArray t)).heap.size = w.heap.size + 1 by simp] at this
end Go.Proofs.YtnhhhnngocdagaaDoor.Te
/- Package tree, walked: rows of charges held against each other. -/
namespace Go.Proofs.YtnhhhnngocdagaaDoor.Te
open Go.RowKit Go.Sort P Mm R6 Tl
theorem lies_on {w w' : World} {cs : List Value} {c : Charge} {ta : Option Addr} {tc : Nat} {aa : Option Addr} {ac : Nat} (h : ChargeLies w cs c ta tc aa ac) (hb : Below w.heap.size w w') : ChargeLies w' cs c ta tc aa ac :=
  ⟨h.cells, h.tiers.on hb, h.adjusts.on hb, h.meter, h.win, h.nums⟩
/-- A struct goes into the block that was made last. -/
theorem wpList_store_new {P : Program} {ops : Array Oper} {rest : List Oper} {op : Oper} {a : Act} {Q : Exit → Act → World → Prop} (hgd : op.guard = none) (ty : TypeId) (x y : Operand) (ho : op.op = .store ty x y)
    (W : World) (z cs : Array Value) (hx : a.eval x = .pointer (some ⟨W.heap.size, 0, none⟩)) (hy : a.eval y = .agg cs) (hi : (P.info? ty).map (·.size) = some cs.size) (hz : z.size = cs.size) (h1 : cs.all (·.oneCell') = true)
    (h : wpList P ops Q rest (a.put op.dst undef) (W.alloc (.cells cs ty))) : wpList P ops Q (op :: rest) a (W.alloc (.cells z ty)) :=
  wpList_plain hgd fun K hK => by
    have := hK _ _ h
    unfold Oper.wp execOp
    simp only [ho, hx, hy, Sem.run_bind, run_storeAt_new W ty z cs hi hz h1, Result.andThen_ok]
    exact this
theorem range_new (W : World) (cs : List Value) (t : TypeId) : (W.alloc (.cells cs.toArray t)).rangeAt W.heap.size 0 cs := fun j v h => by
  rw [Nat.zero_add]
  exact cell1 h
theorem range_box {W : World} {b o : Nat} {x : Charge} {ta : Option Addr} {tc : Nat} {aa : Option Addr} {ac : Nat} (h : ChargeAt W b o x ta tc aa ac) : W.rangeAt b o (chargeC x ta tc aa ac) := by
  obtain ⟨_, a0, a1, a2, a3, a4, a5, a6, a7, a8, a9, a10, a11, a12, a13, a14, a15⟩ := h
  intro j v hj
  match j, hj with
  | 0, hj => cases hj; exact a0
  | 1, hj => cases hj; exact a1
  | 2, hj => cases hj; exact a2
  | 3, hj => cases hj; exact a3
  | 4, hj => cases hj; exact a4
  | 5, hj => cases hj; exact a5
  | 6, hj => cases hj; exact a6
  | 7, hj => cases hj; exact a7
  | 8, hj => cases hj; exact a8
  | 9, hj => cases hj; exact a9
  | 10, hj => cases hj; exact a10
  | 11, hj => cases hj; exact a11
  | 12, hj => cases hj; exact a12
  | 13, hj => cases hj; exact a13
  | 14, hj => cases hj; exact a14
  | 15, hj => cases hj; exact a15
  | j + 16, hj => cases hj
end Go.Proofs.YtnhhhnngocdagaaDoor.Te
/- Package tree, walked: Same. -/
namespace Go.Proofs.YtnhhhnngocdagaaDoor.Te
open Go.RowKit Go.Sort P Mm R6 Tl
/-- Whether two plans are one, but for places. -/
def sameP (p q : Plan) : Bool := (p.name.toList == q.name.toList) && (p.cur.toList == q.cur.toList) && (p.a.y == q.a.y) && (p.a.m == q.a.m) && (p.a.d == q.a.d) && (p.b.y == q.b.y) && (p.b.m == q.b.m) && (p.b.d == q.b.d) && eqL sameM p.meters q.meters && eqL sameF p.fees q.fees && eqL sameC p.charges q.charges
theorem str_eq {a b : ByteArray} : a.toList = b.toList ↔ a = b := by
  constructor
  · intro h
    rw [ByteArray.toList_eq, ByteArray.toList_eq] at h
    exact ByteArray.ext (Array.toList_inj.1 h)
  · rintro rfl; rfl
theorem eqL_iff {α β : Type} {f : α → α → Bool} {g : α → β} (h : ∀ x y, f x y = true ↔ g x = g y) : ∀ xs ys : List α, eqL f xs ys = true ↔ xs.map g = ys.map g
  | [], [] => by simp [eqL]
  | [], _ :: _ => by simp [eqL]
  | _ :: _, [] => by simp [eqL]
  | x :: xs, y :: ys => by
    rw [eqL, Bool.and_eq_true, h, eqL_iff h xs ys]
    simp
theorem sameM_iff (m n : Meter) : sameM m n = true ↔ nM m = nM n := by
  unfold sameM nM
  simp only [Bool.and_eq_true, beq_iff_eq, str_eq, Meter.mk.injEq, and_true]
  exact and_assoc
theorem sameF_iff (m n : Fee) : sameF m n = true ↔ nF m = nF n := by
  obtain ⟨_, ⟨_, ⟨_, _, _⟩, ⟨_, _, _⟩⟩, _, _⟩ := m
  obtain ⟨_, ⟨_, ⟨_, _, _⟩, ⟨_, _, _⟩⟩, _, _⟩ := n
  unfold sameF nF
  simp only [Bool.and_eq_true, beq_iff_eq, Fee.mk.injEq, Win.mk.injEq, Day.mk.injEq, and_true]
  constructor <;> intro h <;> simp_all
theorem sameC_iff (m n : Charge) : sameC m n = true ↔ nC m = nC n := by
  have h1 := eqL_iff (f := beqT) (g := id) (fun x y => by unfold beqT; simp) m.tiers n.tiers
  have h2 := eqL_iff (f := beqA) (g := id) (fun x y => by unfold beqA; simp) m.adjusts n.adjusts
  rw [List.map_id, List.map_id] at h1 h2
  obtain ⟨_, ⟨_, ⟨_, _, _⟩, ⟨_, _, _⟩⟩, _, _, _, _, _, _, _, _⟩ := m
  obtain ⟨_, ⟨_, ⟨_, _, _⟩, ⟨_, _, _⟩⟩, _, _, _, _, _, _, _, _⟩ := n
  unfold sameC nC
  simp only [Bool.and_eq_true, beq_iff_eq, str_eq, Charge.mk.injEq, Win.mk.injEq, Day.mk.injEq, and_true]
  simp only at h1 h2
  rw [h1, h2]
  constructor <;> intro h <;> simp_all
theorem sameP_iff (p q : Plan) : sameP p q = true ↔ noPl p = noPl q := by
  have h1 := eqL_iff sameM_iff p.meters q.meters
  have h2 := eqL_iff sameF_iff p.fees q.fees
  have h3 := eqL_iff sameC_iff p.charges q.charges
  obtain ⟨_, _, ⟨_, _, _⟩, ⟨_, _, _⟩, _, _, _, _, _⟩ := p
  obtain ⟨_, _, ⟨_, _, _⟩, ⟨_, _, _⟩, _, _, _, _, _⟩ := q
  unfold sameP noPl
  simp only [Bool.and_eq_true, beq_iff_eq, str_eq, Plan.mk.injEq, Day.mk.injEq, and_true]
  simp only at h1 h2 h3
  rw [h1, h2, h3]
  constructor <;> intro h <;> simp_all
end Go.Proofs.YtnhhhnngocdagaaDoor.Te

/- The document's answers for layer 10 (poundageref10): Good. -/
import Derived.Test.YtjgogpaedaffkaaGreatJRef11
import Derived.Test.YtjgogpaedaffkaaGreatJRef9c
import Derived.Test.YtjgogpaedaffkaaGreatJMem
import Derived.Test.YtjgogpaedaffkaaGreatJRef2
import Derived.LoopTactic
import Derived.LoopN
namespace Go.Proofs.YtjgogpaedaffkaaGreat.P
end Go.Proofs.YtjgogpaedaffkaaGreat.P
namespace Go.Proofs.YtjgogpaedaffkaaGreat.Mm
end Go.Proofs.YtjgogpaedaffkaaGreat.Mm
namespace Go.Proofs.YtjgogpaedaffkaaGreat.Md
end Go.Proofs.YtjgogpaedaffkaaGreat.Md
namespace Go.Proofs.YtjgogpaedaffkaaGreat.R6
end Go.Proofs.YtjgogpaedaffkaaGreat.R6
namespace Go.Proofs.YtjgogpaedaffkaaGreat.Te
end Go.Proofs.YtjgogpaedaffkaaGreat.Te
namespace Go.Proofs.YtjgogpaedaffkaaGreat.Co
end Go.Proofs.YtjgogpaedaffkaaGreat.Co
namespace Go.Proofs.YtjgogpaedaffkaaGreat.Ex
end Go.Proofs.YtjgogpaedaffkaaGreat.Ex
namespace Go.Proofs.YtjgogpaedaffkaaGreat.R10
open Go.RowKit Go.Sort P Mm Md R6 Te Co
theorem hor_eq (c : Cor) : horB c = (inB c.a 0 3652058 && (inB c.b c.a 3652058 && decide (c.b - c.a ≤ 3999))) := by
  unfold horB inB
  rw [Bool.eq_iff_iff]
  simp only [Bool.and_eq_true, decide_eq_true_eq]
  omega
theorem good_eq (c : Cor) : goodC c = (inB c.a 0 3652058 && (inB c.b c.a 3652058 && (decide (c.b - c.a ≤ 3999) && (decide (c.meters.length ≤ 4) && (decide (c.sums.length ≤ 8) && (decide (c.parts.length ≤ 8) && (metersB c.meters && (c.sums.all (sumB c) && c.parts.all (partB c))))))))) := by
  unfold goodC
  rw [hor_eq]
  ac_rfl
theorem in_bel (n a b : Int) (w : World) : Calls Tryz.prog 42 #[.int .i64 n, .int .i64 a, .int .i64 b] w fun e w' => e = .returned (.bool (inB n a b)) ∧ Below w.heap.size w w' :=
  (in_any n a b w).mono fun _ _ ⟨h1, h2⟩ => ⟨h1, by rw [← h2]; exact Below.refl _ _⟩
set_option maxHeartbeats 16000000 in
set_option maxRecDepth 100000 in
theorem good_any (c : Cor) (ma : Option Addr) (mc : Nat) (sa : Option Addr) (sc : Nat) (pa : Option Addr) (pc : Nat) (w : World) (hc : CorLies w (corC c ma mc sa sc pa pc) c ma mc sa sc pa pc) :
    Calls Tryz.prog 17 #[.agg #[.string c.cur, .int .i64 c.a, .int .i64 c.b, .slice ma c.meters.length mc, .slice sa c.sums.length sc, .slice pa c.parts.length pc]] w fun e w' => e = .returned (.bool (goodC c)) ∧ Below w.heap.size w w' := by
  obtain ⟨w1, hw1⟩ : ∃ W, W = w.alloc (.cells ([.string c.cur, .int .i64 c.a, .int .i64 c.b, .slice ma c.meters.length mc, .slice sa c.sums.length sc, .slice pa c.parts.length pc] : List Value).toArray 26) := ⟨_, rfl⟩
  obtain ⟨k1, hk1⟩ : ∃ k, k = w.heap.size := ⟨_, rfl⟩
  have b1 : Below w.heap.size w w1 := by rw [hw1]; exact bel_alloc _ _
  have X1 : Box w1 k1 [.string c.cur, .int .i64 c.a, .int .i64 c.b, .slice ma c.meters.length mc, .slice sa c.sums.length sc, .slice pa c.parts.length pc] := by rw [hw1, hk1]; exact Box.new _ _ _
  have X := hid (fun (W : World) (b : Below w1.heap.size w1 W) => (⟨X1.on b, bel_on b1 b⟩ : Box W k1 [.string c.cur, .int .i64 c.a, .int .i64 c.b, .slice ma c.meters.length mc, .slice sa c.sums.length sc, .slice pa c.parts.length pc] ∧ Below w.heap.size w W))
  have HC := hid (fun (W : World) (b : Below w1.heap.size w1 W) => hc.on (bel_on b1 b))
  have u1 := hc.meters.hcap
  have u2 := hc.meters.hmax
  have u3 := hc.sums.hcap
  have u4 := hc.sums.hmax
  have u5 := hc.parts.hcap
  have u6 := hc.parts.hmax
  obtain ⟨R, hR⟩ : ∃ R, R = goodC c := ⟨_, rfl⟩
  rw [← hR]
  have K0 : Hid (R = (inB c.a 0 3652058 && (inB c.b c.a 3652058 && (decide (c.b - c.a ≤ 3999) && (decide (c.meters.length ≤ 4) && (decide (c.sums.length ≤ 8) && (decide (c.parts.length ≤ 8) && (metersB c.meters && (c.sums.all (sumB c) && c.parts.all (partB c)))))))))) := hid (by rw [hR]; exact good_eq c)
  have HW := hid hw1
  have HK := hid hk1
  have d1 := X1.cell 1 _ rfl; have d2 := X1.cell 2 _ rfl; have d3 := X1.cell 3 _ rfl; have d4 := X1.cell 4 _ rfl; have d5 := X1.cell 5 _ rfl
  clear hw1 X1 b1 hR hc hk1
  go_enter Tryz.func17, Tryz.ntmps17
  go_upto_region 1 with fail
  rw [← HW.out, ← HK.out]
  clear HW HK
  have B0 := hid (Below.refl w1.heap.size w1)
  have BF := hid (X.out _ B0.out).2
  have cS := hid (in_any c.a 0 3652058 w1)
  go_wp2_with fail
  refine cS.out.mono ?_
  rintro e w' ⟨rfl, rfl⟩
  clear cS
  rcases Bool.eq_false_or_eq_true (inB c.a 0 3652058) with g | g
  rotate_left
  · have KF : Hid (R = false) := hid (by rw [K0.out, g]; rfl)
    rw [g]
    clear g
    go_wp2
    go_ret
    exact rbb KF.out.symm BF.out
  have K1 : Hid (R = (inB c.b c.a 3652058 && (decide (c.b - c.a ≤ 3999) && (decide (c.meters.length ≤ 4) && (decide (c.sums.length ≤ 8) && (decide (c.parts.length ≤ 8) && (metersB c.meters && (c.sums.all (sumB c) && c.parts.all (partB c))))))))) := hid (by rw [K0.out, g]; rfl)
  have g0 := g
  rw [g]
  clear g K0
  have cS := hid (in_any c.b c.a 3652058 w1)
  go_wp2_with fail
  refine cS.out.mono ?_
  rintro e w' ⟨rfl, rfl⟩
  clear cS
  rcases Bool.eq_false_or_eq_true (inB c.b c.a 3652058) with g | g
  rotate_left
  · have KF : Hid (R = false) := hid (by rw [K1.out, g]; rfl)
    rw [g]
    clear g
    go_wp2
    go_ret
    exact rbb KF.out.symm BF.out
  have K2 : Hid (R = (decide (c.b - c.a ≤ 3999) && (decide (c.meters.length ≤ 4) && (decide (c.sums.length ≤ 8) && (decide (c.parts.length ≤ 8) && (metersB c.meters && (c.sums.all (sumB c) && c.parts.all (partB c)))))))) := hid (by rw [K1.out, g]; rfl)
  have g1 := g
  rw [g]
  clear g K1
  unfold inB at g0 g1
  rw [Bool.and_eq_true, decide_eq_true_eq, decide_eq_true_eq] at g0 g1
  have wr0 : IntKind.i64.wrap (c.b - c.a) = c.b - c.a := wrap_i (by unfold I64; omega)
  clear g0 g1
  by_cases t0 : 3999 < c.b - c.a
  · have KF : Hid (R = false) := hid (by rw [K2.out, decide_eq_false (by omega)]; rfl)
    go_wp2
    go_ret
    exact rbb KF.out.symm BF.out
  have K3 : Hid (R = (decide (c.meters.length ≤ 4) && (decide (c.sums.length ≤ 8) && (decide (c.parts.length ≤ 8) && (metersB c.meters && (c.sums.all (sumB c) && c.parts.all (partB c))))))) := hid (by rw [K2.out, decide_eq_true (by omega)]; rfl)
  clear K2
  by_cases t1 : 4 < (c.meters.length : Int)
  · have KF : Hid (R = false) := hid (by rw [K3.out, decide_eq_false (by omega)]; rfl)
    go_wp2
    go_ret
    exact rbb KF.out.symm BF.out
  have K4 : Hid (R = (decide (c.sums.length ≤ 8) && (decide (c.parts.length ≤ 8) && (metersB c.meters && (c.sums.all (sumB c) && c.parts.all (partB c)))))) := hid (by rw [K3.out, decide_eq_true (by omega)]; rfl)
  clear K3
  by_cases t2 : 8 < (c.sums.length : Int)
  · have KF : Hid (R = false) := hid (by rw [K4.out, decide_eq_false (by omega)]; rfl)
    go_wp2
    go_ret
    exact rbb KF.out.symm BF.out
  have K5 : Hid (R = (decide (c.parts.length ≤ 8) && (metersB c.meters && (c.sums.all (sumB c) && c.parts.all (partB c))))) := hid (by rw [K4.out, decide_eq_true (by omega)]; rfl)
  clear K4
  by_cases t3 : 8 < (c.parts.length : Int)
  · have KF : Hid (R = false) := hid (by rw [K5.out, decide_eq_false (by omega)]; rfl)
    go_wp2
    go_ret
    exact rbb KF.out.symm BF.out
  have K6 : Hid (R = (metersB c.meters && (c.sums.all (sumB c) && c.parts.all (partB c)))) := hid (by rw [K5.out, decide_eq_true (by omega)]; rfl)
  clear K5
  go_wp2
  clear d1 d2 d3 d4 d5
  go_loopw [50] (fun i wr => ∃ i' : Nat, i = .int .i64 (i' : Int) ∧ i' ≤ c.meters.length ∧ Hid (R = (metersF (prevN c.meters i') (c.meters.drop i') && (c.sums.all (sumB c) && c.parts.all (partB c)))) ∧ Hid (Below w1.heap.size w1 wr)) (fun i _ => c.meters.length - (intOf i).toNat)
  case atStart => exact ⟨0, rfl, Nat.zero_le _, K6, B0⟩
  case round =>
    obtain ⟨i', rfl, hi, hR, hb⟩ := hrel
    clear K6 B0 BF
    by_cases hlt : i' < c.meters.length
    · obtain ⟨x, tx⟩ : ∃ x, c.meters[i']? = some x := ⟨_, List.getElem?_eq_getElem hlt⟩
      have TX := hid tx
      have K2 : Hid (R = (((ordB (prevN c.meters i') x.name && mtB x) && metersF (some x.name) (c.meters.drop (i' + 1))) && (c.sums.all (sumB c) && c.parts.all (partB c)))) := hid (by rw [hR.out, metersF_step tx])
      obtain ⟨w2, hw2⟩ : ∃ W, W = wr.alloc (.cells ([.string x.name, .string x.unit, .int .i64 x.max, .int .i64 x.line, .int .i64 x.col] : List Value).toArray 39) := ⟨_, rfl⟩
      obtain ⟨k2, hk2⟩ : ∃ k, k = wr.heap.size := ⟨_, rfl⟩
      have b2 : Below wr.heap.size wr w2 := by rw [hw2]; exact bel_alloc _ _
      have X2 : Box w2 k2 [.string x.name, .string x.unit, .int .i64 x.max, .int .i64 x.line, .int .i64 x.col] := by rw [hw2, hk2]; exact Box.new _ _ _
      have B2 := hid (bel_on hb.out b2)
      have HW := hid hw2
      have HK := hid hk2
      obtain ⟨bx, ox, e, lbx, x0, x1, x2, x3, x4, _⟩ := meter_at (HC.out _ hb.out).meters tx
      subst e
      have c0 := X2.cell 0 _ rfl; have c1 := X2.cell 1 _ rfl; have c2 := X2.cell 2 _ rfl; have c3 := X2.cell 3 _ rfl; have c4 := X2.cell 4 _ rfl
      have m3 := (X.out w2 B2.out).1.cell 3 _ rfl
      have cI := fun W => in_bel x.max 0 2000 W
      clear hw2 hk2 b2 X2 hR hb
      go_upto_region 6 with fail
      rw [← HW.out, ← HK.out]
      clear HW HK x0 x1 x2 x3 x4 lbx
      rcases Bool.eq_false_or_eq_true (inB x.max 0 2000) with g | g
      rotate_left
      · rw [g] at cI
        have KF : Hid (R = false) := hid (by rw [K2.out]; unfold mtB; rw [g]; simp)
        have f0 := cell_regrown c0; have f1 := cell_regrown c1; have f2 := cell_regrown c2; have f3 := cell_regrown c3; have f4 := cell_regrown c4; have f5 := cell_regrown m3
        have qI := fun d os => Calls.regrown_of (cI (grow (redrawn w2 d) os))
        refine wp_region_quiet_below (by kernel_rfl) (by kernel_rfl) ?_
        repeat (go_big_quiet_step (first | (go_at_call 42; exact qI _ _)))
        refine wpQuiet_nil ?_
        intro w3 hw'
        obtain ⟨⟨dq, osq⟩, hw''⟩ := hw'
        have B3 : Below w2.heap.size w2 w3 := by subst hw''; exact below_regrown w2 dq osq
        have HB3 := hid (bel_on B2.out B3)
        have BF3 := hid (X.out w3 HB3.out).2
        clear hw'' f0 f1 f2 f3 f4 f5 c0 c1 c2 c3 c4 m3 B3 qI cI
        go_wp2
        go_ret
        exact rbb KF.out.symm BF3.out
      have gm := hid g
      rw [g] at cI
      clear g
      by_cases gl : x.line = 0
      rotate_left
      · have gl2 : (x.line != 0) = true := by simpa using gl
        have KF : Hid (R = false) := hid (by rw [K2.out]; unfold mtB; rw [decide_eq_false gl]; simp)
        have f0 := cell_regrown c0; have f1 := cell_regrown c1; have f2 := cell_regrown c2; have f3 := cell_regrown c3; have f4 := cell_regrown c4; have f5 := cell_regrown m3
        have qI := fun d os => Calls.regrown_of (cI (grow (redrawn w2 d) os))
        refine wp_region_quiet_below (by kernel_rfl) (by kernel_rfl) ?_
        repeat (go_big_quiet_step (first | (go_at_call 42; exact qI _ _)))
        refine wpQuiet_nil ?_
        intro w3 hw'
        obtain ⟨⟨dq, osq⟩, hw''⟩ := hw'
        have B3 : Below w2.heap.size w2 w3 := by subst hw''; exact below_regrown w2 dq osq
        have HB3 := hid (bel_on B2.out B3)
        have BF3 := hid (X.out w3 HB3.out).2
        clear hw'' f0 f1 f2 f3 f4 f5 c0 c1 c2 c3 c4 m3 B3 qI cI
        go_wp2
        go_ret
        exact rbb KF.out.symm BF3.out
      have gl2 : (x.line != 0) = false := by simpa using gl
      have GL := hid gl
      clear gl
      by_cases gc : x.col = 0
      rotate_left
      · have gc2 : (x.col != 0) = true := by simpa using gc
        have KF : Hid (R = false) := hid (by rw [K2.out]; unfold mtB; rw [decide_eq_false gc]; simp)
        have f0 := cell_regrown c0; have f1 := cell_regrown c1; have f2 := cell_regrown c2; have f3 := cell_regrown c3; have f4 := cell_regrown c4; have f5 := cell_regrown m3
        have qI := fun d os => Calls.regrown_of (cI (grow (redrawn w2 d) os))
        refine wp_region_quiet_below (by kernel_rfl) (by kernel_rfl) ?_
        repeat (go_big_quiet_step (first | (go_at_call 42; exact qI _ _)))
        refine wpQuiet_nil ?_
        intro w3 hw'
        obtain ⟨⟨dq, osq⟩, hw''⟩ := hw'
        have B3 : Below w2.heap.size w2 w3 := by subst hw''; exact below_regrown w2 dq osq
        have HB3 := hid (bel_on B2.out B3)
        have BF3 := hid (X.out w3 HB3.out).2
        clear hw'' f0 f1 f2 f3 f4 f5 c0 c1 c2 c3 c4 m3 B3 qI cI
        go_wp2
        go_ret
        exact rbb KF.out.symm BF3.out
      have gc2 : (x.col != 0) = false := by simpa using gc
      have GC := hid gc
      clear gc
      have K3 : Hid (R = ((ordB (prevN c.meters i') x.name && metersF (some x.name) (c.meters.drop (i' + 1))) && (c.sums.all (sumB c) && c.parts.all (partB c)))) := hid (by rw [K2.out]; unfold mtB; rw [gm.out, decide_eq_true GL.out, decide_eq_true GC.out]; simp)
      clear K2
      rcases Decidable.em (i' = 0) with hz | hz
      · subst hz
        have K4 : Hid (R = (metersF (prevN c.meters (0 + 1)) (c.meters.drop (0 + 1)) && (c.sums.all (sumB c) && c.parts.all (partB c)))) := hid (by rw [K3.out, prevN_next tx]; rfl)
        clear tx K3
        have f0 := cell_regrown c0; have f1 := cell_regrown c1; have f2 := cell_regrown c2; have f3 := cell_regrown c3; have f4 := cell_regrown c4; have f5 := cell_regrown m3
        have qI := fun d os => Calls.regrown_of (cI (grow (redrawn w2 d) os))
        refine wp_region_quiet_below (by kernel_rfl) (by kernel_rfl) ?_
        repeat (go_big_quiet_step (first | (go_at_call 42; exact qI _ _)))
        refine wpQuiet_nil ?_
        intro w3 hw'
        obtain ⟨⟨dq, osq⟩, hw''⟩ := hw'
        have B3 : Below w2.heap.size w2 w3 := by subst hw''; exact below_regrown w2 dq osq
        have HB3 := hid (bel_on B2.out B3)
        have BF3 := hid (X.out w3 HB3.out).2
        clear hw'' f0 f1 f2 f3 f4 f5 c0 c1 c2 c3 c4 m3 B3 qI cI
        go_wp2
        go_roundw
        case rel => exact ⟨0 + 1, by simp, by omega, K4, HB3⟩
        case measure => simp [intOf]; omega
      · obtain ⟨y, ty⟩ : ∃ y, c.meters[i' - 1]? = some y := ⟨_, List.getElem?_eq_getElem (by omega)⟩
        have PY : prevN c.meters i' = some y.name := prevN_at ty (by omega)
        obtain ⟨by', oy, e, lby, y0, _⟩ := meter_at (HC.out _ B2.out).meters ty
        simp only [Option.some.injEq, Addr.mk.injEq, and_true] at e
        obtain ⟨rfl, rfl⟩ := e
        have w1' : IntKind.i64.wrap ((i' : Int) - 1) = (i' : Int) - 1 := wrap_i (by unfold I64; omega)
        have q0 : (0 : Int) < i' := by omega
        have gz : decide ((0 : Int) < (i' : Int)) = true := decide_eq_true q0
        have q3 : 0 < i' := by omega
        have gz2 : decide (0 < i') = true := decide_eq_true q3
        have q1 : 0 ≤ (i' : Int) - 1 := by omega
        have q2 : (i' : Int) - 1 < c.meters.length := by omega
        have fy := cell_regrown y0
        have KL := hid (klt_eq y.name x.name)
        rcases Bool.eq_false_or_eq_true (Op.bytesLess y.name.toList x.name.toList) with gq | gq
        · have K4 : Hid (R = (metersF (prevN c.meters (i' + 1)) (c.meters.drop (i' + 1)) && (c.sums.all (sumB c) && c.parts.all (partB c)))) := hid (by
            rw [K3.out, PY, prevN_next tx]
            show ((klt y.name x.name && _) && _) = _
            rw [← KL.out, gq]
            rfl)
          clear tx ty PY K3 lby
          have f0 := cell_regrown c0; have f1 := cell_regrown c1; have f2 := cell_regrown c2; have f3 := cell_regrown c3; have f4 := cell_regrown c4; have f5 := cell_regrown m3
          have qI := fun d os => Calls.regrown_of (cI (grow (redrawn w2 d) os))
          refine wp_region_quiet_below (by kernel_rfl) (by kernel_rfl) ?_
          repeat (go_big_quiet_step (first | (go_at_call 42; exact qI _ _)))
          refine wpQuiet_nil ?_
          intro w3 hw'
          obtain ⟨⟨dq, osq⟩, hw''⟩ := hw'
          have B3 : Below w2.heap.size w2 w3 := by subst hw''; exact below_regrown w2 dq osq
          have HB3 := hid (bel_on B2.out B3)
          have BF3 := hid (X.out w3 HB3.out).2
          clear hw'' f0 f1 f2 f3 f4 f5 c0 c1 c2 c3 c4 m3 B3 qI cI
          go_wp2
          go_roundw
          case rel => exact ⟨i' + 1, by simp, by omega, K4, HB3⟩
          case measure => simp [intOf]; omega
        · clear ty lby
          have KF : Hid (R = false) := hid (by
                rw [K3.out, PY]
                show ((klt y.name x.name && _) && _) = _
                rw [← KL.out, gq]
                rfl)
          have f0 := cell_regrown c0; have f1 := cell_regrown c1; have f2 := cell_regrown c2; have f3 := cell_regrown c3; have f4 := cell_regrown c4; have f5 := cell_regrown m3
          have qI := fun d os => Calls.regrown_of (cI (grow (redrawn w2 d) os))
          refine wp_region_quiet_below (by kernel_rfl) (by kernel_rfl) ?_
          repeat (go_big_quiet_step (first | (go_at_call 42; exact qI _ _)))
          refine wpQuiet_nil ?_
          intro w3 hw'
          obtain ⟨⟨dq, osq⟩, hw''⟩ := hw'
          have B3 : Below w2.heap.size w2 w3 := by subst hw''; exact below_regrown w2 dq osq
          have HB3 := hid (bel_on B2.out B3)
          have BF3 := hid (X.out w3 HB3.out).2
          clear hw'' f0 f1 f2 f3 f4 f5 c0 c1 c2 c3 c4 m3 B3 qI cI
          go_wp2
          go_ret
          exact rbb KF.out.symm BF3.out
    · obtain rfl : i' = c.meters.length := by omega
      have K7 : Hid (R = ((c.sums.drop 0).all (sumB c) && c.parts.all (partB c))) := hid (by rw [hR.out, List.drop_length]; rfl)
      have d4 := (X.out wr hb.out).1.cell 4 _ rfl
      obtain ⟨wq, hwq⟩ : ∃ W, W = wr := ⟨_, rfl⟩
      rw [← hwq] at hb d4 ⊢
      have B7 := hb
      clear hwq hb hR hlt hi
      go_wp2
      clear d4
      go_loopw [90] (fun i wr => ∃ i' : Nat, i = .int .i64 (i' : Int) ∧ i' ≤ c.sums.length ∧ Hid (R = ((c.sums.drop i').all (sumB c) && c.parts.all (partB c))) ∧ Hid (Below w1.heap.size w1 wr)) (fun i _ => c.sums.length - (intOf i).toNat)
      case atStart => exact ⟨0, rfl, Nat.zero_le _, K7, B7⟩
      case round =>
        obtain ⟨i', rfl, hi, hR, hb⟩ := hrel
        clear K7 B7
        by_cases hlt : i' < c.sums.length
        · obtain ⟨x, tx⟩ : ∃ x, c.sums[i']? = some x := ⟨_, List.getElem?_eq_getElem hlt⟩
          have K2 : Hid (R = (inB x.amt 0 1000000000000 && (spanB c.a c.b x.a x.b && ((c.sums.drop (i' + 1)).all (sumB c) && c.parts.all (partB c))))) := hid (by rw [hR.out, all_drop tx]; unfold sumB; simp only [Bool.and_assoc])
          obtain ⟨w2, hw2⟩ : ∃ W, W = wr.alloc (.cells ([.int .i64 x.amt, .int .i64 x.a, .int .i64 x.b] : List Value).toArray 52) := ⟨_, rfl⟩
          obtain ⟨k2, hk2⟩ : ∃ k, k = wr.heap.size := ⟨_, rfl⟩
          have b2 : Below wr.heap.size wr w2 := by rw [hw2]; exact bel_alloc _ _
          have X2 : Box w2 k2 [.int .i64 x.amt, .int .i64 x.a, .int .i64 x.b] := by rw [hw2, hk2]; exact Box.new _ _ _
          have B2 := hid (bel_on hb.out b2)
          have HW := hid hw2
          have HK := hid hk2
          obtain ⟨bx, ox, e, lbx, x0, x1, x2, _⟩ := sum_at (HC.out _ hb.out).sums tx
          subst e
          have c0 := X2.cell 0 _ rfl; have c1 := X2.cell 1 _ rfl; have c2 := X2.cell 2 _ rfl
          have BF2 := hid (X.out w2 B2.out).2
          clear hw2 hk2 b2 X2 hR hb tx
          go_upto_region 12 with fail
          rw [← HW.out, ← HK.out]
          clear HW HK x0 x1 x2 lbx
          have cS := hid (in_any x.amt 0 1000000000000 w2)
          go_wp2_with fail
          refine cS.out.mono ?_
          rintro e w' ⟨rfl, rfl⟩
          clear cS
          rcases Bool.eq_false_or_eq_true (inB x.amt 0 1000000000000) with g | g
          rotate_left
          · have KF : Hid (R = false) := hid (by rw [K2.out, g]; rfl)
            rw [g]
            clear g
            go_wp2
            go_ret
            exact rbb KF.out.symm BF2.out
          have K3 : Hid (R = (spanB c.a c.b x.a x.b && ((c.sums.drop (i' + 1)).all (sumB c) && c.parts.all (partB c)))) := hid (by rw [K2.out, g]; rfl)
          rw [g]
          clear g K2
          have RC := hid (range_of (X.out w2 B2.out).1.cell)
          have cS := hid (span_any c x.a x.b ma mc (some ⟨bx, ox, none⟩) sc pa pc w2)
          go_wp2_with (first | ((with_reducible refine R9.wpList_load_midg (op := Oper.mk (some 99) (Op.load 26 (Operand.tmp 1)) _ _ _ _) ?_ 26 (.tmp 1) ?_ k1 0 ?_ [.string c.cur, .int .i64 c.a, .int .i64 c.b, .slice ma c.meters.length mc, .slice (some ⟨bx, ox, none⟩) c.sums.length sc, .slice pa c.parts.length pc] _ RC.out Tryz.underlying26 ?_ ?_ ?_); (first | (exact R9.wantg rfl (by kernel_rfl) rfl)); rfl; go_simp; rfl; kernel_rfl) | fail)
          refine cS.out.mono ?_
          rintro e w3 ⟨rfl, b3⟩
          have B3 := hid (bel_on B2.out b3)
          have BF3 := hid (X.out w3 B3.out).2
          clear b3 cS RC c0 c1 c2
          rcases Bool.eq_false_or_eq_true (spanB c.a c.b x.a x.b) with g | g
          rotate_left
          · have KF : Hid (R = false) := hid (by rw [K3.out, g]; rfl)
            rw [g]
            clear g
            go_wp2
            go_ret
            exact rbb KF.out.symm BF3.out
          have K4 : Hid (R = ((c.sums.drop (i' + 1)).all (sumB c) && c.parts.all (partB c))) := hid (by rw [K3.out, g]; rfl)
          rw [g]
          clear g K3
          go_wp2
          go_roundw
          case rel => exact ⟨i' + 1, by simp, by omega, K4, B3⟩
          case measure => simp [intOf]; omega
        · obtain rfl : i' = c.sums.length := by omega
          have K8 : Hid (R = (c.parts.drop 0).all (partB c)) := hid (by rw [hR.out, List.drop_length]; rfl)
          have d5 := (X.out wr hb.out).1.cell 5 _ rfl
          obtain ⟨wq, hwq⟩ : ∃ W, W = wr := ⟨_, rfl⟩
          rw [← hwq] at hb d5 ⊢
          have B8 := hb
          clear hwq hb hR hlt hi
          go_wp2
          clear d5
          go_loopw [111] (fun i wr => ∃ i' : Nat, i = .int .i64 (i' : Int) ∧ i' ≤ c.parts.length ∧ Hid (R = (c.parts.drop i').all (partB c)) ∧ Hid (Below w1.heap.size w1 wr)) (fun i _ => c.parts.length - (intOf i).toNat)
          case atStart => exact ⟨0, rfl, Nat.zero_le _, K8, B8⟩
          case round =>
            obtain ⟨i', rfl, hi, hR, hb⟩ := hrel
            clear K8 B8
            by_cases hlt : i' < c.parts.length
            · obtain ⟨x, tx⟩ : ∃ x, c.parts[i']? = some x := ⟨_, List.getElem?_eq_getElem hlt⟩
              have K2 : Hid (R = (partB c x && (c.parts.drop (i' + 1)).all (partB c))) := hid (by rw [hR.out, all_drop tx])
              obtain ⟨bx, ox, ta, tc, aa, ac, e, lbx, x0, x1, x2, x3, x4, x5, x6, x7, x8, hp⟩ := prt_at (HC.out _ hb.out).parts tx
              subst e
              obtain ⟨w2, hw2⟩ : ∃ W, W = wr.alloc (.cells ([.int .i64 x.mt, .int .i64 x.a, .int .i64 x.b, .int .i64 x.allowance, .int .i64 x.block, .int .i64 x.kind, .slice ta x.tiers.length tc, .int .i64 x.mode, .slice aa x.adjusts.length ac] : List Value).toArray 58) := ⟨_, rfl⟩
              obtain ⟨k2, hk2⟩ : ∃ k, k = wr.heap.size := ⟨_, rfl⟩
              have b2 : Below wr.heap.size wr w2 := by rw [hw2]; exact bel_alloc _ _
              have X2 : Box w2 k2 [.int .i64 x.mt, .int .i64 x.a, .int .i64 x.b, .int .i64 x.allowance, .int .i64 x.block, .int .i64 x.kind, .slice ta x.tiers.length tc, .int .i64 x.mode, .slice aa x.adjusts.length ac] := by rw [hw2, hk2]; exact Box.new _ _ _
              have B2 := hid (bel_on hb.out b2)
              have HW := hid hw2
              have HK := hid hk2
              have cS := hid (part_any c x ma mc sa sc (some ⟨bx, ox, none⟩) pc ta tc aa ac w2 (hp.tiers.on b2) (hp.adjusts.on b2))
              have RP := hid (range_of X2.cell)
              clear hw2 hk2 b2 X2 hR hb tx hp
              go_upto_region 18 with fail
              rw [← HW.out, ← HK.out]
              clear HW HK x0 x1 x2 x3 x4 x5 x6 x7 x8 lbx
              have RC := hid (range_of (X.out w2 B2.out).1.cell)
              go_wp2_with (first | (with_reducible refine wpList_load_mid (op := Oper.mk (some 115) (Op.load 26 (Operand.tmp 1)) _ _ _ _) ?_ 26 (.tmp 1) ?_ k1 0 ?_ [.string c.cur, .int .i64 c.a, .int .i64 c.b, .slice ma c.meters.length mc, .slice sa c.sums.length sc, .slice (some ⟨bx, ox, none⟩) c.parts.length pc] _ RC.out Tryz.underlying26 ?_ ?_ ?_; rfl; rfl; go_simp; rfl; kernel_rfl) | (with_reducible refine wpList_load_mid (op := Oper.mk (some 116) (Op.load 58 (Operand.tmp 8)) _ _ _ _) ?_ 58 (.tmp 8) ?_ k2 0 ?_ [.int .i64 x.mt, .int .i64 x.a, .int .i64 x.b, .int .i64 x.allowance, .int .i64 x.block, .int .i64 x.kind, .slice ta x.tiers.length tc, .int .i64 x.mode, .slice aa x.adjusts.length ac] _ RP.out Tryz.underlying58 ?_ ?_ ?_; rfl; rfl; go_simp; rfl; kernel_rfl) | fail)
              refine cS.out.mono ?_
              rintro e w3 ⟨rfl, b3⟩
              have B3 := hid (bel_on B2.out b3)
              have BF3 := hid (X.out w3 B3.out).2
              clear b3 cS RC RP
              rcases Bool.eq_false_or_eq_true (partB c x) with g | g
              rotate_left
              · have KF : Hid (R = false) := hid (by rw [K2.out, g]; rfl)
                rw [g]
                clear g
                go_wp2
                go_ret
                exact rbb KF.out.symm BF3.out
              have K4 : Hid (R = (c.parts.drop (i' + 1)).all (partB c)) := hid (by rw [K2.out, g]; rfl)
              rw [g]
              clear g K2
              go_wp2
              go_roundw
              case rel => exact ⟨i' + 1, by simp, by omega, K4, B3⟩
              case measure => simp [intOf]; omega
            · obtain rfl : i' = c.parts.length := by omega
              have KT : Hid (R = true) := hid (by rw [hR.out, List.drop_length]; rfl)
              have BFT := hid (X.out wr hb.out).2
              go_wp2
              go_ret
              exact rbb KT.out.symm BFT.out
end Go.Proofs.YtjgogpaedaffkaaGreat.R10
/- What exact.Sum, Least and Most answer, of all rows of whole numbers. -/
namespace Go.Proofs.YtjgogpaedaffkaaGreat.Ex
open Go.RowKit P
set_option maxHeartbeats 400000 in
theorem sum_any (b off cap : Nat) (xs : List Int) (w : World) (hc : Cells w b off xs) (hx : allI64 xs) (hl : xs.length ≤ 1000000) :
    Calls Tryz.prog 16 #[.slice (some ⟨b, off, none⟩) xs.length cap] w fun e w' => e = .returned (.tuple #[.int .i64 (sumTo 0 xs).1, .bool (sumTo 0 xs).2]) ∧ w = w' := by
  have HC := hid hc
  have HX := hid hx
  clear hc hx
  go_enter Tryz.func16, Tryz.ntmps16
  go_wp2
  go_loop [4, 11] (fun t i => ∃ k : Nat, ∃ n : Int, k ≤ xs.length ∧ i = .int .i64 k ∧ t = .int .i64 n ∧ Hid (I64 n ∧ sumTo 0 xs = sumTo n (xs.drop k))) (fun _ i => xs.length - (intOf i).toNat)
  case atStart => exact ⟨0, 0, Nat.zero_le _, rfl, rfl, ⟨i64_0, rfl⟩⟩
  case round =>
    obtain ⟨k, n, hk, rfl, rfl, H⟩ := hrel
    by_cases hlt : k < xs.length
    · have hcell := HC.out k hlt
      have hxi := allI64_get HX.out hlt
      generalize hv : xs.getD k 0 = v at *
      have HV := hid hv
      have HXI := hid hxi
      clear hv hxi
      by_cases hi : I64 (n + v)
      · have HI := hid hi
        clear hi
        go_wp2_with (go_at_call 41; refine (add_yes _ _ _ HI.out).mono ?_; rintro e w' ⟨rfl, rfl⟩)
        go_round
        case rel => exact ⟨k + 1, n + v, by omega, by go_num, rfl, ⟨HI.out, by rw [H.out.2, sumTo_yes hlt (by rw [HV.out]; exact HI.out), HV.out]⟩⟩
        case measure => simp [intOf]; omega
      · have HI := hid hi
        clear hi
        go_wp2_with (go_at_call 41; refine (add_no _ _ _ H.out.1 HXI.out HI.out).mono ?_; rintro e w' ⟨rfl, rfl⟩)
        go_ret2
        have hfin : sumTo 0 xs = (0, false) := by rw [H.out.2]; exact sumTo_no hlt (by rw [HV.out]; exact HI.out)
        exact ⟨ret_2 (by rw [hfin]) (by rw [hfin]), rfl⟩
    · go_wp2
      go_ret2
      have hfin : sumTo 0 xs = (n, true) := by rw [H.out.2]; exact sumTo_end n (by omega)
      exact ⟨ret_2 (by rw [hfin]) (by rw [hfin]), rfl⟩
theorem sum_none (a : Option Addr) (cap : Nat) (w : World) :
    Calls Tryz.prog 16 #[.slice a 0 cap] w fun e w' => e = .returned (.tuple #[.int .i64 0, .bool true]) ∧ w = w' := by
  go_enter Tryz.func16, Tryz.ntmps16
  go_wp2
  refine wp_loop_rounds 1 ?_
  rw [rounds_succ]
  go_wp2
  go_ret2
  exact ⟨rfl, rfl⟩
theorem least_better (a b : Int) (w : World) :
    Calls Tryz.prog 133 #[.int .i64 a, .int .i64 b] w fun e w' => e = .returned (.bool (ltB a b)) ∧ w = w' := by
  go_enter Tryz.func133, Tryz.ntmps133
  go_wp2
  go_ret
  exact ⟨rfl, rfl⟩
theorem most_better (a b : Int) (w : World) :
    Calls Tryz.prog 134 #[.int .i64 a, .int .i64 b] w fun e w' => e = .returned (.bool (gtB a b)) ∧ w = w' := by
  go_enter Tryz.func134, Tryz.ntmps134
  go_wp2
  go_ret
  exact ⟨rfl, rfl⟩
set_option maxHeartbeats 400000 in
theorem best_many_least (b off cap : Nat) (x : Int) (r : List Int) (w : World) (hc : Cells w b off (x :: r)) (hl : r.length ≤ 1000000) (_hcap : r.length + 1 ≤ cap) (h1 : ¬ cap = 1) :
    Calls Tryz.prog 132 #[.func (.func 133) #[] #[], .slice (some ⟨b, off, none⟩) (r.length + 1) cap] w fun e w' => e = .returned (.tuple #[.int .i64 (bestOf ltB x r), .bool true]) ∧ w = w' := by
  have HC : Hid (Cells w b (off + 1) r) := fun i hi => by
    have := hc (i + 1) (by simpa using hi)
    rw [show off + (i + 1) = off + 1 + i by omega] at this
    simpa using this
  have hc0 : w.cell? ⟨b, off, none⟩ = some (.int .i64 x) := hc 0 (by simp)
  clear hc
  have e0 : (((r.length : Nat) : Int) + 1 == 0) = false := by simp; omega
  go_enter Tryz.func132, Tryz.ntmps132
  go_wp2
  go_loop [6, 18] (fun t i => ∃ k : Nat, ∃ n : Int, k ≤ r.length ∧ i = .int .i64 k ∧ t = .int .i64 n ∧ Hid (bestOf ltB x r = bestOf ltB n (r.drop k))) (fun _ i => r.length - (intOf i).toNat)
  case atStart => exact ⟨0, x, Nat.zero_le _, rfl, rfl, rfl⟩
  case round =>
    obtain ⟨k, n, hk, rfl, rfl, H⟩ := hrel
    by_cases hlt : k < r.length
    · have hcell := HC.out k hlt
      generalize hv : r.getD k 0 = v at *
      have HV := hid hv
      clear hv
      rcases Bool.eq_false_or_eq_true (ltB v n) with hb | hb
      · have HB := hid hb
        clear hb
        go_wp2_with fail
        refine (least_better _ _ _).mono ?_; rintro e w' ⟨rfl, rfl⟩; rw [HB.out]
        go_wp2
        go_round
        case rel => exact ⟨k + 1, v, by omega, by go_num, rfl, by show _ = _; rw [H.out, bestOf_yes hlt (by rw [HV.out]; exact HB.out), HV.out]⟩
        case measure => simp [intOf]; omega
      · have HB := hid hb
        clear hb
        go_wp2_with fail
        refine (least_better _ _ _).mono ?_; rintro e w' ⟨rfl, rfl⟩; rw [HB.out]
        go_wp2
        go_round
        case rel => exact ⟨k + 1, n, by omega, by go_num, rfl, by show _ = _; rw [H.out, bestOf_no hlt (by rw [HV.out]; exact HB.out)]⟩
        case measure => simp [intOf]; omega
    · go_wp2
      go_ret2
      exact ⟨ret_2 (by rw [H.out]; exact (bestOf_end ltB n (by omega)).symm) rfl, rfl⟩
theorem best_one_least (b off : Nat) (x : Int) (w : World) (hc0 : w.cell? ⟨b, off, none⟩ = some (.int .i64 x)) :
    Calls Tryz.prog 132 #[.func (.func 133) #[] #[], .slice (some ⟨b, off, none⟩) 1 1] w fun e w' => e = .returned (.tuple #[.int .i64 x, .bool true]) ∧ w = w' := by
  go_enter Tryz.func132, Tryz.ntmps132
  go_wp2
  refine wp_loop_rounds 1 ?_
  rw [rounds_succ]
  go_wp2
  go_ret2
  exact ⟨rfl, rfl⟩
theorem best_any_least (b off cap : Nat) (x : Int) (r : List Int) (w : World) (hc : Cells w b off (x :: r)) (hl : r.length ≤ 1000000) (hcap : r.length + 1 ≤ cap) :
    Calls Tryz.prog 132 #[.func (.func 133) #[] #[], .slice (some ⟨b, off, none⟩) (r.length + 1) cap] w fun e w' => e = .returned (.tuple #[.int .i64 (bestOf ltB x r), .bool true]) ∧ w = w' := by
  by_cases h1 : cap = 1
  · have hr : r = [] := List.eq_nil_of_length_eq_zero (by omega)
    subst h1 hr
    exact best_one_least b off x w (hc 0 (by simp))
  · exact best_many_least b off cap x r w hc hl hcap h1
set_option maxHeartbeats 400000 in
theorem best_many_most (b off cap : Nat) (x : Int) (r : List Int) (w : World) (hc : Cells w b off (x :: r)) (hl : r.length ≤ 1000000) (_hcap : r.length + 1 ≤ cap) (h1 : ¬ cap = 1) :
    Calls Tryz.prog 132 #[.func (.func 134) #[] #[], .slice (some ⟨b, off, none⟩) (r.length + 1) cap] w fun e w' => e = .returned (.tuple #[.int .i64 (bestOf gtB x r), .bool true]) ∧ w = w' := by
  have HC : Hid (Cells w b (off + 1) r) := fun i hi => by
    have := hc (i + 1) (by simpa using hi)
    rw [show off + (i + 1) = off + 1 + i by omega] at this
    simpa using this
  have hc0 : w.cell? ⟨b, off, none⟩ = some (.int .i64 x) := hc 0 (by simp)
  clear hc
  have e0 : (((r.length : Nat) : Int) + 1 == 0) = false := by simp; omega
  go_enter Tryz.func132, Tryz.ntmps132
  go_wp2
  go_loop [6, 18] (fun t i => ∃ k : Nat, ∃ n : Int, k ≤ r.length ∧ i = .int .i64 k ∧ t = .int .i64 n ∧ Hid (bestOf gtB x r = bestOf gtB n (r.drop k))) (fun _ i => r.length - (intOf i).toNat)
  case atStart => exact ⟨0, x, Nat.zero_le _, rfl, rfl, rfl⟩
  case round =>
    obtain ⟨k, n, hk, rfl, rfl, H⟩ := hrel
    by_cases hlt : k < r.length
    · have hcell := HC.out k hlt
      generalize hv : r.getD k 0 = v at *
      have HV := hid hv
      clear hv
      rcases Bool.eq_false_or_eq_true (gtB v n) with hb | hb
      · have HB := hid hb
        clear hb
        go_wp2_with fail
        refine (most_better _ _ _).mono ?_; rintro e w' ⟨rfl, rfl⟩; rw [HB.out]
        go_wp2
        go_round
        case rel => exact ⟨k + 1, v, by omega, by go_num, rfl, by show _ = _; rw [H.out, bestOf_yes hlt (by rw [HV.out]; exact HB.out), HV.out]⟩
        case measure => simp [intOf]; omega
      · have HB := hid hb
        clear hb
        go_wp2_with fail
        refine (most_better _ _ _).mono ?_; rintro e w' ⟨rfl, rfl⟩; rw [HB.out]
        go_wp2
        go_round
        case rel => exact ⟨k + 1, n, by omega, by go_num, rfl, by show _ = _; rw [H.out, bestOf_no hlt (by rw [HV.out]; exact HB.out)]⟩
        case measure => simp [intOf]; omega
    · go_wp2
      go_ret2
      exact ⟨ret_2 (by rw [H.out]; exact (bestOf_end gtB n (by omega)).symm) rfl, rfl⟩
theorem best_one_most (b off : Nat) (x : Int) (w : World) (hc0 : w.cell? ⟨b, off, none⟩ = some (.int .i64 x)) :
    Calls Tryz.prog 132 #[.func (.func 134) #[] #[], .slice (some ⟨b, off, none⟩) 1 1] w fun e w' => e = .returned (.tuple #[.int .i64 x, .bool true]) ∧ w = w' := by
  go_enter Tryz.func132, Tryz.ntmps132
  go_wp2
  refine wp_loop_rounds 1 ?_
  rw [rounds_succ]
  go_wp2
  go_ret2
  exact ⟨rfl, rfl⟩
theorem best_any_most (b off cap : Nat) (x : Int) (r : List Int) (w : World) (hc : Cells w b off (x :: r)) (hl : r.length ≤ 1000000) (hcap : r.length + 1 ≤ cap) :
    Calls Tryz.prog 132 #[.func (.func 134) #[] #[], .slice (some ⟨b, off, none⟩) (r.length + 1) cap] w fun e w' => e = .returned (.tuple #[.int .i64 (bestOf gtB x r), .bool true]) ∧ w = w' := by
  by_cases h1 : cap = 1
  · have hr : r = [] := List.eq_nil_of_length_eq_zero (by omega)
    subst h1 hr
    exact best_one_most b off x w (hc 0 (by simp))
  · exact best_many_most b off cap x r w hc hl hcap h1
theorem least_any (b off cap : Nat) (x : Int) (r : List Int) (w : World) (hc : Cells w b off (x :: r)) (hl : r.length ≤ 1000000) (hcap : r.length + 1 ≤ cap) :
    Calls Tryz.prog 115 #[.slice (some ⟨b, off, none⟩) (r.length + 1) cap] w fun e w' => e = .returned (.tuple #[.int .i64 (bestOf ltB x r), .bool true]) ∧ w = w' := by
  have HC := hid hc
  clear hc
  go_enter Tryz.func115, Tryz.ntmps115
  go_wp2_with fail
  refine (best_any_least _ _ _ x r _ HC.out hl hcap).mono ?_; rintro e w' ⟨rfl, rfl⟩
  go_wp2
  go_ret2
  exact ⟨rfl, rfl⟩
theorem most_any (b off cap : Nat) (x : Int) (r : List Int) (w : World) (hc : Cells w b off (x :: r)) (hl : r.length ≤ 1000000) (hcap : r.length + 1 ≤ cap) :
    Calls Tryz.prog 116 #[.slice (some ⟨b, off, none⟩) (r.length + 1) cap] w fun e w' => e = .returned (.tuple #[.int .i64 (bestOf gtB x r), .bool true]) ∧ w = w' := by
  have HC := hid hc
  clear hc
  go_enter Tryz.func116, Tryz.ntmps116
  go_wp2_with fail
  refine (best_any_most _ _ _ x r _ HC.out hl hcap).mono ?_; rintro e w' ⟨rfl, rfl⟩
  go_wp2
  go_ret2
  exact ⟨rfl, rfl⟩
end Go.Proofs.YtjgogpaedaffkaaGreat.Ex
/- What the document's answer for a row's sum (poundageref01.Sum) comes to. -/
namespace Go.Proofs.YtjgogpaedaffkaaGreat.R1
open Go.RowKit P Ex
theorem small127 {a : Int} (h : I64 a) : a.natAbs < two127 := by unfold I64 at h; unfold two127; omega
set_option maxHeartbeats 1000000 in
theorem sum_any (b off cap : Nat) (xs : List Int) (w : World) (hc : Cells w b off xs) (hb : b < w.heap.size) (hx : allI64 xs) (hl : xs.length ≤ 1000000) :
    Calls Tryz.prog 46 #[.slice (some ⟨b, off, none⟩) xs.length cap] w fun e w' => e = .returned (.tuple #[.int .i64 (sumTo 0 xs).1, .bool (sumTo 0 xs).2]) ∧ Below w.heap.size w w' := by
  have HC := hid hc
  have HX := hid hx
  clear hc hx
  go_enter Tryz.func46, Tryz.ntmps46
  go_wp2
  go_loopw [4, 11] (fun t i wr => ∃ k : Nat, ∃ n : Int, k ≤ xs.length ∧ i = .int .i64 k ∧ t = .int .i64 n ∧ Hid (I64 n ∧ sumTo 0 xs = sumTo n (xs.drop k) ∧ Below w.heap.size w wr)) (fun _ i _ => xs.length - (intOf i).toNat)
  case atStart => exact ⟨0, 0, Nat.zero_le _, rfl, rfl, ⟨i64_0, rfl, Below.refl _ _⟩⟩
  case round =>
    obtain ⟨k, n, hk, rfl, rfl, H⟩ := hrel
    rename World => wr
    by_cases hlt : k < xs.length
    · have hcell : wr.cell? ⟨b, off + k, none⟩ = some (.int .i64 (xs.getD k 0)) := (HC.out.later H.out.2.2 hb) k hlt
      have hxi := allI64_get HX.out hlt
      generalize hv : xs.getD k 0 = v at *
      have HV := hid hv
      have HXI := hid hxi
      have B0 : Hid (Below w.heap.size w wr) := H.out.2.2
      have HN : Hid (I64 n) := H.out.1
      have HS : Hid (sumTo 0 xs = sumTo n (xs.drop k)) := H.out.2.1
      clear hv hxi H
      go_wp2_with fail
      refine (of_any _ _ HN.out).mono ?_; rintro e w1 ⟨rfl, hb1⟩
      have B1 : Hid (Below w.heap.size w w1) := below_via B0.out hb1 (Below.size B0.out)
      clear hb1 B0
      go_wp2_with fail
      refine (of_any _ _ HXI.out).mono ?_; rintro e w2 ⟨rfl, hb2⟩
      have B2 : Hid (Below w.heap.size w w2) := below_via B1.out hb2 (Below.size B1.out)
      clear hb2 B1
      go_wp2_with fail
      refine (R1.add_any _ _ _ (small127 HN.out) (small127 HXI.out)).mono ?_; rintro e w3 ⟨rfl, hb3⟩
      have B3 : Hid (Below w.heap.size w w3) := below_via B2.out hb3 (Below.size B2.out)
      clear hb3 B2
      by_cases hi : I64 (n + v)
      · have C1 := hid (cut64_t hi)
        have C2 := hid (ok64_t hi)
        have HI := hid hi
        clear hi
        go_wp2_with fail
        refine (int_any _ _).mono ?_; rintro e w4 ⟨rfl, hb4⟩; rw [C1.out, C2.out]
        have B4 : Hid (Below w.heap.size w w4) := below_via B3.out hb4 (Below.size B3.out)
        clear hb4 B3
        go_wp2
        go_roundw
        case rel => exact ⟨k + 1, n + v, by omega, by go_num, rfl, ⟨HI.out, by rw [HS.out, sumTo_yes hlt (by rw [HV.out]; exact HI.out), HV.out], B4.out⟩⟩
        case measure => simp [intOf]; omega
      · have C1 := hid (cut64_f hi)
        have C2 := hid (ok64_f hi)
        have HI := hid hi
        clear hi
        go_wp2_with fail
        refine (int_any _ _).mono ?_; rintro e w4 ⟨rfl, hb4⟩; rw [C1.out, C2.out]
        have B4 : Hid (Below w.heap.size w w4) := below_via B3.out hb4 (Below.size B3.out)
        clear hb4 B3
        go_wp2
        go_ret2
        have hfin : sumTo 0 xs = (0, false) := by rw [HS.out]; exact sumTo_no hlt (by rw [HV.out]; exact HI.out)
        exact ⟨Ex.ret_2 (by rw [hfin]) (by rw [hfin]), B4.out⟩
    · go_wp2
      go_ret2
      have hfin : sumTo 0 xs = (n, true) := by rw [H.out.2.1]; exact sumTo_end n (by omega)
      exact ⟨Ex.ret_2 (by rw [hfin]) (by rw [hfin]), H.out.2.2⟩
theorem sum_none (a : Option Addr) (cap : Nat) (w : World) :
    Calls Tryz.prog 46 #[.slice a 0 cap] w fun e w' => e = .returned (.tuple #[.int .i64 0, .bool true]) ∧ w = w' := by
  go_enter Tryz.func46, Tryz.ntmps46
  go_wp2
  refine wp_loop_rounds 1 ?_
  rw [rounds_succ]
  go_wp2
  go_ret2
  exact ⟨rfl, rfl⟩
end Go.Proofs.YtjgogpaedaffkaaGreat.R1

/- CurveOne (layer 15): two lines have the same curve just if they are the same. -/
import Derived.Test.YtemjmdfmcblgnaaJL15
namespace Go.Proofs.Ytemjmdfmcblgnaa.P
end Go.Proofs.Ytemjmdfmcblgnaa.P
namespace Go.Proofs.Ytemjmdfmcblgnaa.Mm
end Go.Proofs.Ytemjmdfmcblgnaa.Mm
namespace Go.Proofs.Ytemjmdfmcblgnaa.R6
end Go.Proofs.Ytemjmdfmcblgnaa.R6
namespace Go.Proofs.Ytemjmdfmcblgnaa.R14
end Go.Proofs.Ytemjmdfmcblgnaa.R14
namespace Go.Proofs.Ytemjmdfmcblgnaa.L14
end Go.Proofs.Ytemjmdfmcblgnaa.L14
namespace Go.Proofs.Ytemjmdfmcblgnaa.L15
open Go.RowKit Go.Sort P Mm R6 R14 L14
set_option maxHeartbeats 4000000 in
set_option maxRecDepth 100000 in
theorem one_walk (S : LnO) (C : Cu) (a : List Int) (ao : Option Addr) (acap : Nat) (b : List Int) (bo : Option Addr) (bcap : Nat) (w : World) (ha : Row tInt w ao a.length acap a) (hb : Row tInt w bo b.length bcap b) :
    Calls Try.prog 5 #[.slice ao a.length acap, .slice bo b.length bcap] w fun e w' => e = .returned (.bool true) ∧ Below w.heap.size w w' := by
  have cA := hid (alive_any S C w)
  have am := ha.hmax
  have ac := ha.hcap
  have bm := hb.hmax
  have bc := hb.hcap
  have HL := hid (fun (W : World) (k : Below w.heap.size w W) => ha.on k)
  have HL' := hid (fun (W : World) (k : Below w.heap.size w W) => hb.on k)
  have HA := hid ha
  have HB := hid hb
  clear ha hb
  go_enter Try.func5, Try.ntmps5
  go_wp2_with fail
  refine cA.out.mono ?_
  rintro e w1 ⟨rfl, b1⟩
  have B1 := hid b1
  clear b1 cA
  by_cases h1 : 2001 < a.length
  · have z1 : decide ((2001 : Int) < (a.length : Int)) = true := decide_eq_true (by omega)
    go_wp2
    go_ret
    exact ⟨rfl, B1.out⟩
  have z1 : decide ((2001 : Int) < (a.length : Int)) = false := decide_eq_false (by omega)
  by_cases h2 : 2001 < b.length
  · have z2 : decide ((2001 : Int) < (b.length : Int)) = true := decide_eq_true (by omega)
    go_wp2
    go_ret
    exact ⟨rfl, B1.out⟩
  have z2 : decide ((2001 : Int) < (b.length : Int)) = false := decide_eq_false (by omega)
  have hp : Ply 0 a := ply_of (by decide) (by decide) (by omega) (row_vals HA.out)
  have hp' : Ply 0 b := ply_of (by decide) (by decide) (by omega) (row_vals HB.out)
  have cO := fun (W : World) (k : Below w.heap.size w W) => S.of 0 a ao acap W (HL.out W k) (by decide) (by decide) (by omega)
  have cO' := fun (W : World) (k : Below w.heap.size w W) => S.of 0 b bo bcap W (HL'.out W k) (by decide) (by decide) (by omega)
  have cC := fun a2 c2 W h => C.of 0 a a2 c2 W h hp (by omega)
  have cC' := fun a2 c2 W h => C.of 0 b a2 c2 W h hp' (by omega)
  have cS := fun a2 c2 a3 c3 W h1 h2 => C.same ((a.length : Int) - 1) (curG a) a2 c2 ((b.length : Int) - 1) (curG b) a3 c3 W h1 h2
  have cT := fun a2 c2 a3 c3 W h1 h2 => R15.same_any ((a.length : Int) - 1) (curG a) a2 c2 ((b.length : Int) - 1) (curG b) a3 c3 W h1 h2
  rw [eqC_one] at cS cT
  unfold ofM ofG at cC cC'
  rw [ofB_0] at cC cC'
  obtain ⟨R1, hR1⟩ : ∃ R, R = runsF 0 a := ⟨_, rfl⟩
  rw [← hR1] at cO cC
  obtain ⟨N1, hN1⟩ : ∃ N, N = R1.length := ⟨_, rfl⟩
  rw [← hN1] at cO cC
  obtain ⟨R2, hR2⟩ : ∃ R, R = runsF 0 b := ⟨_, rfl⟩
  rw [← hR2] at cO' cC'
  obtain ⟨N2, hN2⟩ : ∃ N, N = R2.length := ⟨_, rfl⟩
  rw [← hN2] at cO' cC'
  obtain ⟨G1, hG1⟩ : ∃ G, G = curG a := ⟨_, rfl⟩
  obtain ⟨G2, hG2⟩ : ∃ G, G = curG b := ⟨_, rfl⟩
  rw [← hG1] at cC cS cT
  rw [← hG2] at cC' cS cT
  have cO := hid cO; have cO' := hid cO'; have cS := hid cS; have cT := hid cT
  clear hp hp' hR1 hN1 hR2 hN2 hG1 hG2 h1 h2
  rcases Bool.eq_false_or_eq_true (curB a) with ga | ga
  rotate_left
  · rw [ga] at cC
    have dC := hid (fun a2 c2 W h => show Calls Try.prog 9 #[.agg #[.slice a2 N1 c2]] W fun e w' => (∃ ao' cap', e = .returned (.tuple #[.agg #[.int .i64 0, .slice ao' 0 cap'], .bool false]) ∧ Row tGp w' ao' 0 cap' []) ∧ Below W.heap.size W w' from cC a2 c2 W h)
    have dC' := hid cC'
    clear ga cC cC'
    go_wp2_with fail
    refine (cO.out w1 B1.out).mono ?_
    rintro e w2 ⟨⟨a2, c2, rfl, r2⟩, b2⟩
    have B2 := hid (bel_on B1.out b2)
    have R2' := hid r2
    clear b2 r2 cO B1
    go_wp2_with fail
    refine (dC.out a2 c2 w2 R2'.out).mono ?_
    rintro e w3 ⟨⟨a3, c3, rfl, r3⟩, b3⟩
    have B3 := hid (bel_on (bel_on B2.out b3) (bel_alloc w3 (.cells #[.int .i64 0, .slice a3 0 c3] 26)))
    clear b3 r3 dC R2' B2
    go_wp2_with fail
    refine (cO'.out _ B3.out).mono ?_
    rintro e w4 ⟨⟨a4, c4, rfl, r4⟩, b4⟩
    have B4 := hid (bel_on B3.out b4)
    have R4 := hid r4
    clear b4 r4 cO' B3
    go_wp2_with fail
    refine (dC'.out a4 c4 w4 R4.out).mono ?_
    rintro e w5 ⟨⟨a5, c5, rfl, r5⟩, b5⟩
    obtain ⟨M5, hM5⟩ : ∃ M, M = if curB b = true then (b.length : Int) - 1 else 0 := ⟨_, rfl⟩
    obtain ⟨G5, hG5⟩ : ∃ G, G = if curB b = true then G2 else [] := ⟨_, rfl⟩
    rw [← hM5, ← hG5]
    have B5 := hid (bel_on (bel_on B4.out b5) (bel_alloc w5 (.cells #[.int .i64 M5, .slice a5 G5.length c5] 26)))
    clear b5 r5 dC' R4 B4 hM5 hG5
    go_wp2
    go_ret
    exact ⟨rfl, B5.out⟩
  rw [ga] at cC
  have dC := hid (fun a2 c2 W h => show Calls Try.prog 9 #[.agg #[.slice a2 N1 c2]] W fun e w' => (∃ ao' cap', e = .returned (.tuple #[.agg #[.int .i64 ((a.length : Int) - 1), .slice ao' G1.length cap'], .bool true]) ∧ Row tGp w' ao' G1.length cap' G1) ∧ Below W.heap.size W w' from cC a2 c2 W h)
  rcases Bool.eq_false_or_eq_true (curB b) with gb | gb
  rotate_left
  · rw [gb] at cC'
    have dC' := hid (fun a2 c2 W h => show Calls Try.prog 9 #[.agg #[.slice a2 N2 c2]] W fun e w' => (∃ ao' cap', e = .returned (.tuple #[.agg #[.int .i64 0, .slice ao' 0 cap'], .bool false]) ∧ Row tGp w' ao' 0 cap' []) ∧ Below W.heap.size W w' from cC' a2 c2 W h)
    clear ga gb cC cC'
    go_wp2_with fail
    refine (cO.out w1 B1.out).mono ?_
    rintro e w2 ⟨⟨a2, c2, rfl, r2⟩, b2⟩
    have B2 := hid (bel_on B1.out b2)
    have R2' := hid r2
    clear b2 r2 cO B1
    go_wp2_with fail
    refine (dC.out a2 c2 w2 R2'.out).mono ?_
    rintro e w3 ⟨⟨a3, c3, rfl, r3⟩, b3⟩
    have B3 := hid (bel_on (bel_on B2.out b3) (bel_alloc w3 (.cells #[.int .i64 ((a.length : Int) - 1), .slice a3 G1.length c3] 26)))
    clear b3 r3 dC R2' B2
    go_wp2_with fail
    refine (cO'.out _ B3.out).mono ?_
    rintro e w4 ⟨⟨a4, c4, rfl, r4⟩, b4⟩
    have B4 := hid (bel_on B3.out b4)
    have R4 := hid r4
    clear b4 r4 cO' B3
    go_wp2_with fail
    refine (dC'.out a4 c4 w4 R4.out).mono ?_
    rintro e w5 ⟨⟨a5, c5, rfl, r5⟩, b5⟩
    have B5 := hid (bel_on (bel_on B4.out b5) (bel_alloc w5 (.cells #[.int .i64 0, .slice a5 0 c5] 26)))
    clear b5 r5 dC' R4 B4
    go_wp2
    go_ret
    exact ⟨rfl, B5.out⟩
  rw [gb] at cC'
  have dC' := hid (fun a2 c2 W h => show Calls Try.prog 9 #[.agg #[.slice a2 N2 c2]] W fun e w' => (∃ ao' cap', e = .returned (.tuple #[.agg #[.int .i64 ((b.length : Int) - 1), .slice ao' G2.length cap'], .bool true]) ∧ Row tGp w' ao' G2.length cap' G2) ∧ Below W.heap.size W w' from cC' a2 c2 W h)
  clear ga gb cC cC'
  go_wp2_with fail
  refine (cO.out w1 B1.out).mono ?_
  rintro e w2 ⟨⟨a2, c2, rfl, r2⟩, b2⟩
  have B2 := hid (bel_on B1.out b2)
  have R2' := hid r2
  clear b2 r2 cO B1
  go_wp2_with fail
  refine (dC.out a2 c2 w2 R2'.out).mono ?_
  rintro e w3 ⟨⟨a3, c3, rfl, r3⟩, b3⟩
  obtain ⟨w4, hw4⟩ : ∃ W, W = w3.alloc (.cells #[.int .i64 ((a.length : Int) - 1), .slice a3 G1.length c3] 26) := ⟨_, rfl⟩
  obtain ⟨k4, hk4⟩ : ∃ k, k = w3.heap.size := ⟨_, rfl⟩
  have b34 : Below w3.heap.size w3 w4 := by rw [hw4]; exact bel_alloc _ _
  have X4 : Box w4 k4 [.int .i64 ((a.length : Int) - 1), .slice a3 G1.length c3] := by rw [hw4, hk4]; exact Box.new w3 [.int .i64 ((a.length : Int) - 1), .slice a3 G1.length c3] _
  have B4 := hid (bel_on (bel_on B2.out b3) b34)
  have R4 := hid (r3.on b34)
  have HX4 := hid X4
  have HW := hid hw4
  have HK := hid hk4
  have g1 := r3.hcap
  have g2 := r3.hmax
  clear b3 r3 dC R2' B2 hw4 hk4 b34 X4
  go_upto_region 6 with fail
  rw [← HW.out, ← HK.out]
  clear HW HK
  go_wp2_with fail
  refine (cO'.out w4 B4.out).mono ?_
  rintro e w5 ⟨⟨a5, c5, rfl, r5⟩, b5⟩
  have B45 := hid b5
  have R5 := hid r5
  clear b5 r5 cO'
  go_wp2_with fail
  refine (dC'.out a5 c5 w5 R5.out).mono ?_
  rintro e w6 ⟨⟨a6, c6, rfl, r6⟩, b6⟩
  obtain ⟨w7, hw7⟩ : ∃ W, W = w6.alloc (.cells #[.int .i64 ((b.length : Int) - 1), .slice a6 G2.length c6] 26) := ⟨_, rfl⟩
  obtain ⟨k7, hk7⟩ : ∃ k, k = w6.heap.size := ⟨_, rfl⟩
  have b67 : Below w6.heap.size w6 w7 := by rw [hw7]; exact bel_alloc _ _
  have X7 : Box w7 k7 [.int .i64 ((b.length : Int) - 1), .slice a6 G2.length c6] := by rw [hw7, hk7]; exact Box.new w6 [.int .i64 ((b.length : Int) - 1), .slice a6 G2.length c6] _
  have b47 := bel_on B45.out (bel_on b6 b67)
  have HX := hid (fun (W : World) (k : Below w7.heap.size w7 W) => (⟨HX4.out.on (bel_on b47 k), X7.on k, R4.out.on (bel_on b47 k), (r6.on b67).on k, bel_on (bel_on B4.out b47) k⟩ : Box W k4 [.int .i64 ((a.length : Int) - 1), .slice a3 G1.length c3] ∧ Box W k7 [.int .i64 ((b.length : Int) - 1), .slice a6 G2.length c6] ∧ Row tGp W a3 G1.length c3 G1 ∧ Row tGp W a6 G2.length c6 G2 ∧ Below w.heap.size w W))
  have B0 := hid (Below.refl w7.heap.size w7)
  have g3 := r6.hcap
  have g4 := r6.hmax
  have HW := hid hw7
  have HK := hid hk7
  clear b6 r6 dC' R5 B45 hw7 hk7 b67 X7 b47 HX4 R4 B4
  go_upto_region 7 with fail
  rw [← HW.out, ← HK.out]
  clear HW HK
  obtain ⟨e0, he0⟩ : ∃ e, ((a.length : Int) == (b.length : Int)) = e := ⟨_, rfl⟩
  have E0 := hid (show e0 = eqS a b 0 by
    rw [← he0]
    unfold eqS
    rw [List.take_zero, List.take_zero, decide_eq_true rfl, Bool.and_true]
    by_cases h : a.length = b.length
    · rw [decide_eq_true h, h]; simp
    · rw [decide_eq_false h, beq_eq_false_iff_ne]; omega)
  go_wp2
  go_loopw [9, 46] (fun q i wr => ∃ (Q : Bool) (i' : Nat), q = .bool Q ∧ i = .int .i64 (i' : Int) ∧ i' ≤ a.length ∧ Hid (Q = eqS a b i') ∧ Hid (Below w7.heap.size w7 wr)) (fun _ i _ => a.length - (intOf i).toNat)
  case atStart => exact ⟨e0, 0, rfl, rfl, Nat.zero_le _, E0, B0⟩
  case round =>
    obtain ⟨Q, i', rfl, rfl, hi, hQ, hb⟩ := hrel
    clear B0 E0 he0
    by_cases hlt : i' < a.length
    · obtain ⟨v, hv⟩ : ∃ v, a[i']? = some v := ⟨_, List.getElem?_eq_getElem hlt⟩
      obtain ⟨bb, ob, eb, lb, q0, -⟩ := int_at (HL.out wr (HX.out wr hb.out).2.2.2.2) hv
      subst eb
      have f0 := cell_regrown q0
      have BW := hid (fun d os => bel_on hb.out (below_regrown wr d os))
      rcases Bool.eq_false_or_eq_true Q with hq | hq
      · obtain ⟨u, hu, hib, hn⟩ := eqS_true (hQ.out.symm.trans hq) hv
        obtain ⟨b2, o2, e2, lb2, q1, -⟩ := int_at (HL'.out wr (HX.out wr hb.out).2.2.2.2) hu
        subst e2
        subst hq
        have f1 := cell_regrown q1
        have zi : decide ((i' : Int) < (b.length : Int)) = true := decide_eq_true (by omega)
        have hib2 : (i' : Int) < (b.length : Int) := by omega
        obtain ⟨Q2, hq2⟩ : ∃ q, (v == u) = q := ⟨_, rfl⟩
        have N2' := hid (show Q2 = eqS a b (i' + 1) by
          rw [hn, ← hq2]
          by_cases e : u = v
          · rw [e]
          · rw [beq_eq_false_iff_ne.2 e, beq_eq_false_iff_ne.2 (Ne.symm e)])
        clear hv hu hn hQ q0 q1 hb
        go_upto_region 13 with fail
        refine wp_region_quiet_below (by kernel_rfl) (by kernel_rfl) ?_
        repeat (go_big_quiet_step (fail))
        refine wpQuiet_nil ?_
        intro _ hw'
        obtain ⟨⟨dq, osq⟩, hw''⟩ := hw'
        subst hw''
        have BZ := hid (BW.out dq osq)
        clear BW f0 f1
        go_wp2
        go_roundw
        case rel => exact ⟨Q2, i' + 1, rfl, by simp, by omega, N2', BZ⟩
        case measure => simp [intOf]; omega
      · have hn := eqS_step (hQ.out.symm.trans hq)
        subst hq
        have N2' := hid (show false = eqS a b (i' + 1) from hn.symm)
        clear hv hn hQ q0 hb
        go_upto_region 13 with fail
        refine wp_region_quiet_below (by kernel_rfl) (by kernel_rfl) ?_
        repeat (go_big_quiet_step (fail))
        refine wpQuiet_nil ?_
        intro _ hw'
        obtain ⟨⟨dq, osq⟩, hw''⟩ := hw'
        subst hw''
        have BZ := hid (BW.out dq osq)
        clear BW f0
        go_wp2
        go_roundw
        case rel => exact ⟨false, i' + 1, rfl, by simp, by omega, N2', BZ⟩
        case measure => simp [intOf]; omega
    · obtain rfl : i' = a.length := by omega
      obtain ⟨p1, p2, p3, p4, p5⟩ := HX.out wr hb.out
      have c1 := cS.out a3 c3 a6 c6 wr p3 p4
      have c2 := fun (W : World) (k : Below wr.heap.size wr W) => cT.out a3 c3 a6 c6 W (p3.on k) (p4.on k)
      rw [← hQ.out] at c1 c2
      have c1 := hid c1
      have c2 := hid c2
      have d0 := p1.cell 0 _ rfl; have d1 := p1.cell 1 _ rfl; have d2 := p2.cell 0 _ rfl; have d3 := p2.cell 1 _ rfl; have l1 := p1.lt; have l2 := p2.lt
      have qq : (Q == Q) = true := by simp
      obtain ⟨wq, hwq⟩ : ∃ W, W = wr := ⟨_, rfl⟩
      rw [← hwq] at c1 c2 d0 d1 d2 d3 l1 l2 hb ⊢
      clear cS cT hQ p1 p2 p3 p4 p5 hwq
      go_wp2_with fail
      refine c1.out.mono ?_
      rintro e w8 ⟨rfl, b8⟩
      have B8 := hid b8
      obtain ⟨p1, p2, -, -, -⟩ := HX.out w8 (bel_on hb.out b8)
      have d0 := p1.cell 0 _ rfl; have d1 := p1.cell 1 _ rfl; have d2 := p2.cell 0 _ rfl; have d3 := p2.cell 1 _ rfl; have l1 := p1.lt; have l2 := p2.lt
      clear c1 b8 p1 p2
      go_wp2_with fail
      refine (c2.out w8 B8.out).mono ?_
      rintro e w9 ⟨rfl, b9⟩
      have BF := hid (HX.out w9 (bel_on hb.out (bel_on B8.out b9))).2.2.2.2
      clear c2 b9 d0 d1 d2 d3 l1 l2 B8 hb
      go_wp2
      go_ret
      exact ⟨rfl, BF.out⟩
end Go.Proofs.Ytemjmdfmcblgnaa.L15

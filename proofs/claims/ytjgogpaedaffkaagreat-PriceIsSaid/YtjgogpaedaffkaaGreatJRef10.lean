/- Package core, walked: tiers, parts, the horizon, meters, Good. -/
import Derived.Test.YtjgogpaedaffkaaGreatJDate
import Derived.Lib.QuietBelow
import Derived.BigQuiet
namespace Go.Proofs.YtjgogpaedaffkaaGreat.P
end Go.Proofs.YtjgogpaedaffkaaGreat.P
namespace Go.Proofs.YtjgogpaedaffkaaGreat.Mm
end Go.Proofs.YtjgogpaedaffkaaGreat.Mm
namespace Go.Proofs.YtjgogpaedaffkaaGreat.Md
end Go.Proofs.YtjgogpaedaffkaaGreat.Md
namespace Go.Proofs.YtjgogpaedaffkaaGreat.R6
end Go.Proofs.YtjgogpaedaffkaaGreat.R6
namespace Go.Proofs.YtjgogpaedaffkaaGreat.Tl
end Go.Proofs.YtjgogpaedaffkaaGreat.Tl
namespace Go.Proofs.YtjgogpaedaffkaaGreat.L06
end Go.Proofs.YtjgogpaedaffkaaGreat.L06
namespace Go.Proofs.YtjgogpaedaffkaaGreat.Te
end Go.Proofs.YtjgogpaedaffkaaGreat.Te
namespace Go.Proofs.YtjgogpaedaffkaaGreat.Co
end Go.Proofs.YtjgogpaedaffkaaGreat.Co
namespace Go.Proofs.YtjgogpaedaffkaaGreat.Co
open Go.RowKit Go.Sort P Mm Md R6 Tl L06 Te
theorem wrap_i {n : Int} (h : I64 n) : IntKind.i64.wrap n = n := by
  unfold I64 at h
  rw [IntKind.wrap_i64 n]
  omega
set_option maxHeartbeats 8000000 in
set_option maxRecDepth 100000 in
theorem goodTiers_any (xs : List Tier) (xa : Option Addr) (xc : Nat) (w : World) (hx : Row tTier w xa xs.length xc xs) :
    Calls Tryz.prog 69 #[.slice xa xs.length xc] w fun e w' => e = .returned (.bool (tierRow xs)) ∧ Below w.heap.size w w' := by
  obtain ⟨n, hn⟩ : ∃ n, n = xs.length := ⟨_, rfl⟩
  have u1 := hx.hcap
  have u2 := hx.hmax
  obtain ⟨R, hR⟩ : ∃ R, R = tierRow xs := ⟨_, rfl⟩
  rw [← hR]
  have K0 : Hid (R = (inB n 1 8 && tiersB 0 xs)) := hid (by rw [hR, hn]; rfl)
  rw [← hn] at hx u1 ⊢
  have HX := hid hx
  have HN := hid hn
  have cB := hid (between_any n 1 8 w)
  clear hR hx hn
  rcases Bool.eq_false_or_eq_true (inB n 1 8) with g | g
  rotate_left
  · have K : Hid (R = false) := hid (by rw [K0.out, g]; rfl)
    rw [g] at cB
    clear K0
    go_enter Tryz.func69, Tryz.ntmps69
    go_wp2_with fail
    refine cB.out.mono ?_
    rintro e w' ⟨rfl, rfl⟩
    go_wp2
    go_ret
    exact rbb K.out.symm (Below.refl _ _)
  have K1 : Hid (R = tiersB 0 xs) := hid (by rw [K0.out, g]; rfl)
  rw [g] at cB
  unfold inB at g
  rw [Bool.and_eq_true, decide_eq_true_eq, decide_eq_true_eq] at g
  obtain ⟨n1, n8⟩ := g
  clear K0
  obtain ⟨z, hz⟩ : ∃ z, xs[n - 1]? = some z := ⟨_, List.getElem?_eq_getElem (by have := HN.out; omega)⟩
  have K : Hid (R = (upB 0 xs && (decide (z.upto = 0) && xs.all rateB))) := hid (by rw [K1.out]; exact tiersB_of (by rw [← HN.out]; exact hz) (by have := HN.out; omega))
  clear K1
  have cA := hid (fun (W : World) (bw : Below w.heap.size w W) => allT_any xs xa xc W (by rw [← HN.out]; exact HX.out.on bw))
  rw [← HN.out] at cA
  obtain ⟨A, hA⟩ : ∃ A, A = xs.all rateB := ⟨_, rfl⟩
  rw [← hA] at cA K
  clear hA
  obtain ⟨bz, oz, ez, lz, _⟩ := tier_at HX.out hz
  subst ez
  have HZ := hid hz
  clear hz
  have w1 : IntKind.i64.wrap ((n : Int) - 1) = (n : Int) - 1 := wrap_i (by unfold I64; omega)
  have q1 : 0 ≤ (n : Int) - 1 := by omega
  have q2 : (n : Int) - 1 ≤ (xc : Int) := by omega
  go_enter Tryz.func69, Tryz.ntmps69
  go_wp2_with fail
  refine cB.out.mono ?_
  rintro e w' ⟨rfl, rfl⟩
  clear cB
  go_wp2
  go_loopw [4, 18] (fun u i wr => ∃ u' i' : Int, u = .int .i64 u' ∧ i = .int .i64 i' ∧ 0 ≤ i' ∧ i' ≤ (n : Int) - 1 ∧ Hid (upB 0 xs = upB u' (xs.drop i'.toNat)) ∧ Hid (Below w.heap.size w wr)) (fun _ i _ => ((n : Int) - intOf i).toNat)
  case atStart => exact ⟨0, 0, rfl, rfl, by omega, by omega, hid rfl, hid (Below.refl _ _)⟩
  case round =>
    obtain ⟨u', i', rfl, rfl, i0, i1, hh, hb⟩ := hrel
    by_cases hlt : i' < (n : Int) - 1
    · obtain ⟨x, tx⟩ : ∃ x, xs[i'.toNat]? = some x := ⟨_, List.getElem?_eq_getElem (by have := HN.out; omega)⟩
      have K2 : Hid (upB 0 xs = (inB x.upto (u' + 1) 1000000 && upB x.upto (xs.drop (i' + 1).toNat))) := hid (by rw [hh.out, upB_step tx (by have := HN.out; omega), show (i' + 1).toNat = i'.toNat + 1 by omega])
      obtain ⟨bx, ox, e, lbx, x0, x1, x2, x3⟩ := tier_at (HX.out.on hb.out) tx
      simp only [Option.some.injEq, Addr.mk.injEq, and_true] at e
      obtain ⟨rfl, rfl⟩ := e
      have hb2 := hid (hb.out.alloc hb.out.size (.cells #[.int .i64 x.upto, .int .i64 x.rate] 54))
      clear tx hh hb
      by_cases h1 : x.upto ≤ u'
      · have K3 : Hid (R = false) := hid (by rw [K.out, K2.out]; unfold inB; rw [decide_eq_false (by omega)]; rfl)
        go_wp2
        go_ret
        exact rbb K3.out.symm hb2.out
      · by_cases h2 : 1000000 < x.upto
        · have K3 : Hid (R = false) := hid (by rw [K.out, K2.out]; unfold inB; rw [decide_eq_false (show ¬ x.upto ≤ 1000000 by omega), Bool.and_false]; rfl)
          go_wp2
          go_ret
          exact rbb K3.out.symm hb2.out
        · have K3 : Hid (upB 0 xs = upB x.upto (xs.drop (i' + 1).toNat)) := hid (by rw [K2.out]; unfold inB; rw [decide_eq_true (by omega), decide_eq_true (by omega)]; rfl)
          clear K2
          go_wp2
          go_roundw
          case rel => exact ⟨x.upto, i' + 1, rfl, rfl, by omega, by omega, K3, hb2⟩
          case measure => simp [intOf]; omega
    · obtain rfl : i' = (n : Int) - 1 := by omega
      have K3 : Hid (R = (decide (z.upto = 0) && A)) := hid (by rw [K.out, hh.out, upB_end (by have := HN.out; omega)]; rfl)
      obtain ⟨bx, ox, e, lbx, x0, x1, x2, x3⟩ := tier_at (HX.out.on hb.out) HZ.out
      simp only [Option.some.injEq, Addr.mk.injEq, and_true] at e
      obtain ⟨rfl, rfl⟩ := e
      by_cases h0 : z.upto = 0
      · have K4 : Hid (R = A) := hid (by rw [K3.out, decide_eq_true h0]; rfl)
        have g0 : (z.upto == 0) = true := by simpa using h0
        have HB := hb
        have cA2 := hid (cA.out wr hb.out)
        clear K K3 cA hh h0 hb
        go_wp2_with fail
        refine cA2.out.mono ?_
        rintro e w' ⟨rfl, b⟩
        have BF := hid (bel_on HB.out b)
        clear b cA2
        go_wp2
        go_ret
        exact rbb K4.out.symm BF.out
      · have K4 : Hid (R = false) := hid (by rw [K3.out, decide_eq_false h0]; rfl)
        have g0 : (z.upto == 0) = false := by simpa using h0
        have HB := hb
        clear K K3 cA hh h0 hb
        go_wp2
        go_ret
        exact rbb K4.out.symm HB.out
theorem prt_at {w : World} {ao : Option Addr} {len cap : Nat} {xs : List Prt} (h : Row tPrt w ao len cap xs) {j : Nat} {x : Prt} (hj : xs[j]? = some x) :
    ∃ b o ta tc aa ac, ao = some ⟨b, o, none⟩ ∧ b < w.heap.size ∧ w.cell? ⟨b, o + j * 9, none⟩ = some (.int .i64 x.mt) ∧ w.cell? ⟨b, o + j * 9 + 1, none⟩ = some (.int .i64 x.a) ∧ w.cell? ⟨b, o + j * 9 + 2, none⟩ = some (.int .i64 x.b) ∧ w.cell? ⟨b, o + j * 9 + 3, none⟩ = some (.int .i64 x.allowance) ∧
      w.cell? ⟨b, o + j * 9 + 4, none⟩ = some (.int .i64 x.block) ∧ w.cell? ⟨b, o + j * 9 + 5, none⟩ = some (.int .i64 x.kind) ∧ w.cell? ⟨b, o + j * 9 + 6, none⟩ = some (.slice ta x.tiers.length tc) ∧ w.cell? ⟨b, o + j * 9 + 7, none⟩ = some (.int .i64 x.mode) ∧ w.cell? ⟨b, o + j * 9 + 8, none⟩ = some (.slice aa x.adjusts.length ac) ∧
      PrtLies w (prtC x ta tc aa ac) x ta tc aa ac := by
  obtain ⟨b, o, cs, h1, h2, ⟨ta, tc, aa, ac, h3⟩, h4⟩ := h.at hj
  have e := h3.cells
  subst e
  exact ⟨b, o, ta, tc, aa, ac, h1, h2, lies0 (h4 0 _ rfl), h4 1 _ rfl, h4 2 _ rfl, h4 3 _ rfl, h4 4 _ rfl, h4 5 _ rfl, h4 6 _ rfl, h4 7 _ rfl, h4 8 _ rfl, h3⟩
set_option maxHeartbeats 8000000 in
set_option maxRecDepth 100000 in
theorem goodPart_any (c : Cor) (x : Prt) (ma : Option Addr) (mc : Nat) (sa : Option Addr) (sc : Nat) (pa : Option Addr) (pc : Nat) (ta : Option Addr) (tc : Nat) (aa : Option Addr) (ac : Nat) (w : World) (ht : Row tTier w ta x.tiers.length tc x.tiers) (ha : Row tAdj w aa x.adjusts.length ac x.adjusts) (hl : c.meters.length ≤ 100000) :
    Calls Tryz.prog 39 #[.agg #[.string c.cur, .int .i64 c.a, .int .i64 c.b, .slice ma c.meters.length mc, .slice sa c.sums.length sc, .slice pa c.parts.length pc], .agg #[.int .i64 x.mt, .int .i64 x.a, .int .i64 x.b, .int .i64 x.allowance, .int .i64 x.block, .int .i64 x.kind, .slice ta x.tiers.length tc, .int .i64 x.mode, .slice aa x.adjusts.length ac]] w fun e w' => e = .returned (.bool (partB c x)) ∧ Below w.heap.size w w' := by
  obtain ⟨w1, hw1⟩ : ∃ W, W = (w.alloc (.cells ([.string c.cur, .int .i64 c.a, .int .i64 c.b, .slice ma c.meters.length mc, .slice sa c.sums.length sc, .slice pa c.parts.length pc] : List Value).toArray 26)).alloc (.cells ([.int .i64 x.mt, .int .i64 x.a, .int .i64 x.b, .int .i64 x.allowance, .int .i64 x.block, .int .i64 x.kind, .slice ta x.tiers.length tc, .int .i64 x.mode, .slice aa x.adjusts.length ac] : List Value).toArray 58) := ⟨_, rfl⟩
  have b1 : Below w.heap.size w w1 := by rw [hw1]; exact bel_alloc2 ..
  have X2 : Box w1 (w.heap.size + 1) [.int .i64 x.mt, .int .i64 x.a, .int .i64 x.b, .int .i64 x.allowance, .int .i64 x.block, .int .i64 x.kind, .slice ta x.tiers.length tc, .int .i64 x.mode, .slice aa x.adjusts.length ac] := by
    rw [hw1]
    have := Box.new (w.alloc (.cells ([.string c.cur, .int .i64 c.a, .int .i64 c.b, .slice ma c.meters.length mc, .slice sa c.sums.length sc, .slice pa c.parts.length pc] : List Value).toArray 26)) [.int .i64 x.mt, .int .i64 x.a, .int .i64 x.b, .int .i64 x.allowance, .int .i64 x.block, .int .i64 x.kind, .slice ta x.tiers.length tc, .int .i64 x.mode, .slice aa x.adjusts.length ac] 58
    simpa using this
  have X1 : Box w1 w.heap.size [.string c.cur, .int .i64 c.a, .int .i64 c.b, .slice ma c.meters.length mc, .slice sa c.sums.length sc, .slice pa c.parts.length pc] := by rw [hw1]; exact (Box.new w _ 26).on (bel_alloc _ _)
  have X := hid (fun (W : World) (b : Below w1.heap.size w1 W) => (⟨X1.on b, X2.on b, bel_on b1 b⟩ : Box W w.heap.size [.string c.cur, .int .i64 c.a, .int .i64 c.b, .slice ma c.meters.length mc, .slice sa c.sums.length sc, .slice pa c.parts.length pc] ∧ Box W (w.heap.size + 1) [.int .i64 x.mt, .int .i64 x.a, .int .i64 x.b, .int .i64 x.allowance, .int .i64 x.block, .int .i64 x.kind, .slice ta x.tiers.length tc, .int .i64 x.mode, .slice aa x.adjusts.length ac] ∧ Below w.heap.size w W))
  have HT := hid (fun (W : World) (b : Below w1.heap.size w1 W) => ht.on (bel_on b1 b))
  have HA := hid (fun (W : World) (b : Below w1.heap.size w1 W) => ha.on (bel_on b1 b))
  obtain ⟨R, hR⟩ : ∃ R, R = partB c x := ⟨_, rfl⟩
  rw [← hR]
  have K0 : Hid (R = (spanB c.a c.b x.a x.b && (inB x.mt 0 ((c.meters.length : Int) - 1) && (inB x.allowance 0 1000000 && (inB x.block 1 1000000 && (inB x.kind 1 2 && (inB x.mode 0 3 && (tierRow x.tiers && (decide (x.adjusts.length ≤ 6) && x.adjusts.all adjB))))))))) := hid hR
  have HW := hid hw1
  have wm : IntKind.i64.wrap ((c.meters.length : Int) - 1) = (c.meters.length : Int) - 1 := wrap_i (by unfold I64; omega)
  clear hw1 X1 X2 b1 hR ht ha hl
  go_enter Tryz.func39, Tryz.ntmps39
  go_upto_region 1 with fail
  rw [← HW.out]
  clear HW
  have B0 := hid (Below.refl w1.heap.size w1)

  have Y := X.out w1 B0.out
  have d0 := Y.1.cell 0 _ rfl; have d1 := Y.1.cell 1 _ rfl; have d2 := Y.1.cell 2 _ rfl; have d3 := Y.1.cell 3 _ rfl; have d4 := Y.1.cell 4 _ rfl; have d5 := Y.1.cell 5 _ rfl
  have a0 := Y.2.1.cell 0 _ rfl; have a1 := Y.2.1.cell 1 _ rfl; have a2 := Y.2.1.cell 2 _ rfl; have a3 := Y.2.1.cell 3 _ rfl; have a4 := Y.2.1.cell 4 _ rfl; have a5 := Y.2.1.cell 5 _ rfl; have a6 := Y.2.1.cell 6 _ rfl; have a7 := Y.2.1.cell 7 _ rfl; have a8 := Y.2.1.cell 8 _ rfl
  have BF := hid Y.2.2
  clear Y
  have cS := hid (within_any c x.a x.b ma mc sa sc pa pc w1)
  go_wp2_with fail
  refine cS.out.mono ?_
  rintro e w2 ⟨rfl, b⟩
  have B1 := hid (bel_on B0.out b)
  clear b cS d0 d1 d2 d3 d4 d5 a0 a1 a2 a3 a4 a5 a6 a7 a8 BF
  have Y := X.out w2 B1.out
  have d3 := Y.1.cell 3 _ rfl
  have a0 := Y.2.1.cell 0 _ rfl; have a1 := Y.2.1.cell 1 _ rfl; have a2 := Y.2.1.cell 2 _ rfl; have a3 := Y.2.1.cell 3 _ rfl; have a4 := Y.2.1.cell 4 _ rfl; have a5 := Y.2.1.cell 5 _ rfl; have a6 := Y.2.1.cell 6 _ rfl; have a7 := Y.2.1.cell 7 _ rfl; have a8 := Y.2.1.cell 8 _ rfl
  have BF := hid Y.2.2
  clear Y
  rcases Bool.eq_false_or_eq_true (spanB c.a c.b x.a x.b) with g | g
  rotate_left
  · have KF : Hid (R = false) := hid (by rw [K0.out, g]; rfl)
    rw [g]
    clear g
    go_wp2
    go_ret
    exact rbb KF.out.symm BF.out
  have K1 : Hid (R = (inB x.mt 0 ((c.meters.length : Int) - 1) && (inB x.allowance 0 1000000 && (inB x.block 1 1000000 && (inB x.kind 1 2 && (inB x.mode 0 3 && (tierRow x.tiers && (decide (x.adjusts.length ≤ 6) && x.adjusts.all adjB)))))))) := hid (by rw [K0.out, g]; rfl)
  rw [g]
  clear g K0
  have cS := hid (between_any x.mt 0 ((c.meters.length : Int) - 1) w2)
  go_wp2_with fail
  refine cS.out.mono ?_
  rintro e w' ⟨rfl, rfl⟩
  clear cS
  -- w2
  rcases Bool.eq_false_or_eq_true (inB x.mt 0 ((c.meters.length : Int) - 1)) with g | g
  rotate_left
  · have KF : Hid (R = false) := hid (by rw [K1.out, g]; rfl)
    rw [g]
    clear g
    go_wp2
    go_ret
    exact rbb KF.out.symm BF.out
  have K2 : Hid (R = (inB x.allowance 0 1000000 && (inB x.block 1 1000000 && (inB x.kind 1 2 && (inB x.mode 0 3 && (tierRow x.tiers && (decide (x.adjusts.length ≤ 6) && x.adjusts.all adjB))))))) := hid (by rw [K1.out, g]; rfl)
  rw [g]
  clear g K1
  have cS := hid (between_any x.allowance 0 1000000 w2)
  go_wp2_with fail
  refine cS.out.mono ?_
  rintro e w' ⟨rfl, rfl⟩
  clear cS
  -- w2
  rcases Bool.eq_false_or_eq_true (inB x.allowance 0 1000000) with g | g
  rotate_left
  · have KF : Hid (R = false) := hid (by rw [K2.out, g]; rfl)
    rw [g]
    clear g
    go_wp2
    go_ret
    exact rbb KF.out.symm BF.out
  have K3 : Hid (R = (inB x.block 1 1000000 && (inB x.kind 1 2 && (inB x.mode 0 3 && (tierRow x.tiers && (decide (x.adjusts.length ≤ 6) && x.adjusts.all adjB)))))) := hid (by rw [K2.out, g]; rfl)
  rw [g]
  clear g K2
  have cS := hid (between_any x.block 1 1000000 w2)
  go_wp2_with fail
  refine cS.out.mono ?_
  rintro e w' ⟨rfl, rfl⟩
  clear cS
  -- w2
  rcases Bool.eq_false_or_eq_true (inB x.block 1 1000000) with g | g
  rotate_left
  · have KF : Hid (R = false) := hid (by rw [K3.out, g]; rfl)
    rw [g]
    clear g
    go_wp2
    go_ret
    exact rbb KF.out.symm BF.out
  have K4 : Hid (R = (inB x.kind 1 2 && (inB x.mode 0 3 && (tierRow x.tiers && (decide (x.adjusts.length ≤ 6) && x.adjusts.all adjB))))) := hid (by rw [K3.out, g]; rfl)
  rw [g]
  clear g K3
  have cS := hid (between_any x.kind 1 2 w2)
  go_wp2_with fail
  refine cS.out.mono ?_
  rintro e w' ⟨rfl, rfl⟩
  clear cS
  -- w2
  rcases Bool.eq_false_or_eq_true (inB x.kind 1 2) with g | g
  rotate_left
  · have KF : Hid (R = false) := hid (by rw [K4.out, g]; rfl)
    rw [g]
    clear g
    go_wp2
    go_ret
    exact rbb KF.out.symm BF.out
  have K5 : Hid (R = (inB x.mode 0 3 && (tierRow x.tiers && (decide (x.adjusts.length ≤ 6) && x.adjusts.all adjB)))) := hid (by rw [K4.out, g]; rfl)
  rw [g]
  clear g K4
  have cS := hid (goodMode_any x.mode w2)
  go_wp2_with fail
  refine cS.out.mono ?_
  rintro e w' ⟨rfl, rfl⟩
  clear cS
  -- w2
  rcases Bool.eq_false_or_eq_true (inB x.mode 0 3) with g | g
  rotate_left
  · have KF : Hid (R = false) := hid (by rw [K5.out, g]; rfl)
    rw [g]
    clear g
    go_wp2
    go_ret
    exact rbb KF.out.symm BF.out
  have K6 : Hid (R = (tierRow x.tiers && (decide (x.adjusts.length ≤ 6) && x.adjusts.all adjB))) := hid (by rw [K5.out, g]; rfl)
  rw [g]
  clear g K5
  have cS := hid (goodTiers_any x.tiers ta tc w2 (HT.out _ B1.out))
  go_wp2_with fail
  refine cS.out.mono ?_
  rintro e w8 ⟨rfl, b⟩
  have B7 := hid (bel_on B1.out b)
  clear b cS d3 a0 a1 a2 a3 a4 a5 a6 a7 a8 BF
  have Y := X.out w8 B7.out
  have d3 := Y.1.cell 3 _ rfl
  have a0 := Y.2.1.cell 0 _ rfl; have a1 := Y.2.1.cell 1 _ rfl; have a2 := Y.2.1.cell 2 _ rfl; have a3 := Y.2.1.cell 3 _ rfl; have a4 := Y.2.1.cell 4 _ rfl; have a5 := Y.2.1.cell 5 _ rfl; have a6 := Y.2.1.cell 6 _ rfl; have a7 := Y.2.1.cell 7 _ rfl; have a8 := Y.2.1.cell 8 _ rfl
  have BF := hid Y.2.2
  clear Y
  rcases Bool.eq_false_or_eq_true (tierRow x.tiers) with g | g
  rotate_left
  · have KF : Hid (R = false) := hid (by rw [K6.out, g]; rfl)
    rw [g]
    clear g
    go_wp2
    go_ret
    exact rbb KF.out.symm BF.out
  have K7 : Hid (R = (decide (x.adjusts.length ≤ 6) && x.adjusts.all adjB)) := hid (by rw [K6.out, g]; rfl)
  rw [g]
  clear g K6
  by_cases h6 : (x.adjusts.length : Int) ≤ 6
  rotate_left
  · have KF : Hid (R = false) := hid (by rw [K7.out, decide_eq_false (by omega)]; rfl)
    go_wp2
    go_ret
    exact rbb (by rw [KF.out] <;> exact decide_eq_false (by omega)) BF.out
  have K8 : Hid (R = x.adjusts.all adjB) := hid (by rw [K7.out, decide_eq_true (by omega)]; rfl)
  have cS := hid (allA_any x.adjusts aa ac w8 (HA.out _ B7.out))
  go_wp2_with fail
  refine cS.out.mono ?_
  rintro e w9 ⟨rfl, b⟩
  have BG := hid (bel_on BF.out b)
  clear b cS BF
  go_wp2
  go_ret
  exact rbb K8.out.symm BG.out
theorem goodPart1_any (c : Cor) (x : Prt) (ma : Option Addr) (mc : Nat) (sa : Option Addr) (sc : Nat) (pa : Option Addr) (pc : Nat) (k : Nat) (ta : Option Addr) (tc : Nat) (aa : Option Addr) (ac : Nat) (w : World) (X : Box w k [.string c.cur, .int .i64 c.a, .int .i64 c.b, .slice ma c.meters.length mc, .slice sa c.sums.length sc, .slice pa c.parts.length pc]) (ht : Row tTier w ta x.tiers.length tc x.tiers) (ha : Row tAdj w aa x.adjusts.length ac x.adjusts) (hl : c.meters.length ≤ 100000) : Calls Tryz.prog 38 #[.agg #[.int .i64 x.mt, .int .i64 x.a, .int .i64 x.b, .int .i64 x.allowance, .int .i64 x.block, .int .i64 x.kind, .slice ta x.tiers.length tc, .int .i64 x.mode, .slice aa x.adjusts.length ac], .pointer (some ⟨k, 0, none⟩)] w fun e w' => e = .returned (.bool (partB c x)) ∧ Below w.heap.size w w' := by
  have b1 := bel_alloc w (.cells #[.int .i64 x.mt, .int .i64 x.a, .int .i64 x.b, .int .i64 x.allowance, .int .i64 x.block, .int .i64 x.kind, .slice ta x.tiers.length tc, .int .i64 x.mode, .slice aa x.adjusts.length ac] 58)
  have d0 := X.cell 0 _ rfl; have d1 := X.cell 1 _ rfl; have d2 := X.cell 2 _ rfl; have d3 := X.cell 3 _ rfl; have d4 := X.cell 4 _ rfl; have d5 := X.cell 5 _ rfl
  have lk := X.lt
  have c2 := hid (goodPart_any c x ma mc sa sc pa pc ta tc aa ac _ (ht.on b1) (ha.on b1) hl)
  have B1 := hid b1
  clear b1 X ht ha hl
  go_enter Tryz.func38, Tryz.ntmps38
  go_wp2_with fail
  refine c2.out.mono ?_
  rintro e w' ⟨rfl, b⟩
  have BF := hid (bel_on B1.out b)
  clear b
  go_wp2
  go_ret
  exact rbb rfl BF.out
theorem notP_any (x : Prt) (ta : Option Addr) (tc : Nat) (aa : Option Addr) (ac : Nat) (c : Cor) (ma : Option Addr) (mc : Nat) (sa : Option Addr) (sc : Nat) (pa : Option Addr) (pc : Nat) (k : Nat) (b : Nat) (w : World) (hb : b < w.heap.size) (hk : w.cell? ⟨b, 0, none⟩ = some (.func (.func 38) #[] #[.pointer (some ⟨k, 0, none⟩)])) (X : Box w k [.string c.cur, .int .i64 c.a, .int .i64 c.b, .slice ma c.meters.length mc, .slice sa c.sums.length sc, .slice pa c.parts.length pc]) (hl : c.meters.length ≤ 100000) (ht : Row tTier w ta x.tiers.length tc x.tiers) (ha : Row tAdj w aa x.adjusts.length ac x.adjusts) : Calls Tryz.prog 67 #[.agg #[.int .i64 x.mt, .int .i64 x.a, .int .i64 x.b, .int .i64 x.allowance, .int .i64 x.block, .int .i64 x.kind, .slice ta x.tiers.length tc, .int .i64 x.mode, .slice aa x.adjusts.length ac], .pointer (some ⟨b, 0, none⟩)] w fun e w' => e = .returned (.bool (!partB c x)) ∧ Below w.heap.size w w' := by
  have b1 := bel_alloc w (.cells #[.int .i64 x.mt, .int .i64 x.a, .int .i64 x.b, .int .i64 x.allowance, .int .i64 x.block, .int .i64 x.kind, .slice ta x.tiers.length tc, .int .i64 x.mode, .slice aa x.adjusts.length ac] 58)
  have c1 := hid (fun (W : World) (bw : Below w.heap.size w W) => goodPart1_any c x ma mc sa sc pa pc k ta tc aa ac W (X.on bw) (ht.on bw) (ha.on bw) hl)
  have HB := hid b1
  clear b1 X ht ha hl
  go_enter Tryz.func67, Tryz.ntmps67
  go_wp2_with fail
  refine (c1.out _ HB.out).mono ?_
  rintro e w' ⟨rfl, b2⟩
  have BF := hid (bel_on HB.out b2)
  clear b2 c1
  go_wp2
  go_ret
  exact rbb rfl BF.out
set_option maxHeartbeats 4000000 in
set_option maxRecDepth 100000 in
theorem idxP_any (xs : List Prt) (xa : Option Addr) (xc : Nat) (c : Cor) (ma : Option Addr) (mc : Nat) (sa : Option Addr) (sc : Nat) (pa : Option Addr) (pc : Nat) (k : Nat) (b : Nat) (w : World) (hx : Row tPrt w xa xs.length xc xs) (hb : b < w.heap.size) (hk : w.cell? ⟨b, 0, none⟩ = some (.func (.func 38) #[] #[.pointer (some ⟨k, 0, none⟩)])) (X : Box w k [.string c.cur, .int .i64 c.a, .int .i64 c.b, .slice ma c.meters.length mc, .slice sa c.sums.length sc, .slice pa c.parts.length pc]) (hl : c.meters.length ≤ 100000) :
    Calls Tryz.prog 95 #[.slice xa xs.length xc, .func (.func 67) #[] #[.pointer (some ⟨b, 0, none⟩)]] w fun e w' => e = .returned (.int .i64 (scanB (partB c) xs 0)) ∧ Below w.heap.size w w' := by
  obtain ⟨n, hn⟩ : ∃ n, n = xs.length := ⟨_, rfl⟩
  have u1 := hx.hcap
  have u2 := hx.hmax
  obtain ⟨R, hR⟩ : ∃ R, R = scanB (partB c) xs 0 := ⟨_, rfl⟩
  rw [← hR]
  have HR := hid hR
  rw [← hn] at hx u1 ⊢
  have HX := hid hx
  have HN := hid hn
  have cN := hid (fun (x : Prt) (ta : Option Addr) (tc : Nat) (aa : Option Addr) (ac : Nat) (W : World) (bw : Below w.heap.size w W) => notP_any x ta tc aa ac c ma mc sa sc pa pc k b W (Nat.lt_of_lt_of_le hb bw.size) (by rw [bw.cell hb]; exact hk) (X.on bw) hl)
  clear hR hx hn hb hk X hl
  go_enter Tryz.func95, Tryz.ntmps95
  go_wp2
  go_loopw [8] (fun i wr => ∃ i' : Int, i = .int .i64 i' ∧ 0 ≤ i' ∧ i' ≤ n ∧ Hid (R = scanB (partB c) (xs.drop i'.toNat) i') ∧ Hid (Below w.heap.size w wr)) (fun i _ => ((n : Int) - intOf i).toNat)
  case atStart => exact ⟨0, rfl, by omega, by omega, hid HR.out, hid (Below.refl _ _)⟩
  case round =>
    obtain ⟨i', rfl, i0, i1, hh, hb⟩ := hrel
    by_cases hlt : i' < n
    · obtain ⟨x, tx⟩ : ∃ x, xs[i'.toNat]? = some x := ⟨_, List.getElem?_eq_getElem (by have := HN.out; omega)⟩
      have K : Hid (R = if partB c x then scanB (partB c) (xs.drop (i' + 1).toNat) (i' + 1) else i') := hid (by
        have := scanB_drop (q := (partB c)) tx
        rw [show ((i'.toNat : Nat) : Int) = i' by omega] at this
        rw [hh.out, this, show (i' + 1).toNat = i'.toNat + 1 by omega])
      obtain ⟨bx, ox, ta, tc, aa, ac, e, lbx, x0, x1, x2, x3, x4, x5, x6, x7, x8, hp⟩ := prt_at (HX.out.on hb.out) tx
      subst e
      have cS := hid (cN.out x ta tc aa ac wr hb.out hp.tiers hp.adjusts)
      clear hp
      clear tx hh
      go_wp2_with fail
      refine cS.out.mono ?_
      rintro e w' ⟨rfl, b3⟩
      have HB := hid (bel_on hb.out b3)
      clear cS b3
      rcases Bool.eq_false_or_eq_true (partB c x) with g | g
      · have K2 : Hid (R = scanB (partB c) (xs.drop (i' + 1).toNat) (i' + 1)) := hid (by rw [K.out, if_pos g])
        rw [g]
        clear g K
        go_wp2
        go_roundw
        case rel => exact ⟨i' + 1, rfl, by omega, by omega, K2, HB⟩
        case measure => simp [intOf]; omega
      · have K2 : Hid (R = i') := hid (by rw [K.out, g]; rfl)
        rw [g]
        clear g K
        go_wp2
        go_ret
        exact ⟨by rw [K2.out]; rfl, HB.out⟩
    · obtain rfl : i' = n := by omega
      have K2 : Hid (R = -1) := hid (by rw [hh.out, List.drop_eq_nil_of_le (by have := HN.out; omega)]; rfl)
      go_wp2
      go_ret
      exact ⟨by rw [K2.out]; rfl, hb.out⟩
theorem findP_any (xs : List Prt) (xa : Option Addr) (xc : Nat) (c : Cor) (ma : Option Addr) (mc : Nat) (sa : Option Addr) (sc : Nat) (pa : Option Addr) (pc : Nat) (k : Nat) (b : Nat) (w : World) (hx : Row tPrt w xa xs.length xc xs) (hb : b < w.heap.size) (hk : w.cell? ⟨b, 0, none⟩ = some (.func (.func 38) #[] #[.pointer (some ⟨k, 0, none⟩)])) (X : Box w k [.string c.cur, .int .i64 c.a, .int .i64 c.b, .slice ma c.meters.length mc, .slice sa c.sums.length sc, .slice pa c.parts.length pc]) (hl : c.meters.length ≤ 100000) :
    Calls Tryz.prog 66 #[.slice xa xs.length xc, .func (.func 67) #[] #[.pointer (some ⟨b, 0, none⟩)]] w fun e w' => e = .returned (.int .i64 (scanB (partB c) xs 0)) ∧ Below w.heap.size w w' := by
  have cI := idxP_any xs xa xc c ma mc sa sc pa pc k b w hx hb hk X hl
  clear hx hb hk X hl
  go_enter Tryz.func66, Tryz.ntmps66
  go_wp2_with fail
  refine cI.mono ?_
  rintro e w' ⟨rfl, b⟩
  clear cI
  go_wp2
  go_ret
  exact ⟨rfl, b⟩
theorem allP_any (xs : List Prt) (xa : Option Addr) (xc : Nat) (c : Cor) (ma : Option Addr) (mc : Nat) (sa : Option Addr) (sc : Nat) (pa : Option Addr) (pc : Nat) (k : Nat) (w : World) (hx : Row tPrt w xa xs.length xc xs) (X : Box w k [.string c.cur, .int .i64 c.a, .int .i64 c.b, .slice ma c.meters.length mc, .slice sa c.sums.length sc, .slice pa c.parts.length pc]) (hl : c.meters.length ≤ 100000) :
    Calls Tryz.prog 37 #[.slice xa xs.length xc, .func (.func 38) #[] #[.pointer (some ⟨k, 0, none⟩)]] w fun e w' => e = .returned (.bool (xs.all (partB c))) ∧ Below w.heap.size w w' := by
  obtain ⟨w1, hw1⟩ : ∃ W, W = w.alloc (.cells ([.func (.func 38) #[] #[.pointer (some ⟨k, 0, none⟩)]] : List Value).toArray 98) := ⟨_, rfl⟩
  have b1 : Below w.heap.size w w1 := by rw [hw1]; exact bel_alloc _ _
  have X1 : Box w1 w.heap.size [.func (.func 38) #[] #[.pointer (some ⟨k, 0, none⟩)]] := by rw [hw1]; exact Box.new _ _ _
  have cI := hid (findP_any xs xa xc c ma mc sa sc pa pc k w.heap.size w1 (hx.on b1) X1.lt (X1.cell 0 _ rfl) (X.on b1) hl)
  have HW := hid hw1
  have B1 := hid b1
  have E : Hid (decide (scanB (partB c) xs 0 < 0) = xs.all (partB c)) := hid (scanB_all xs 0 (by omega))
  obtain ⟨r, hr⟩ : ∃ r, r = scanB (partB c) xs 0 := ⟨_, rfl⟩
  rw [← hr] at cI E
  clear hr hx X1 hw1 b1 X hl
  go_enter Tryz.func37, Tryz.ntmps37
  go_wp2_with fail
  rw [← HW.out]
  refine cI.out.mono ?_
  rintro e w' ⟨rfl, b⟩
  have BF := hid (bel_on B1.out b)
  clear b cI HW
  go_wp2
  go_ret
  exact rbb E.out BF.out
end Go.Proofs.YtjgogpaedaffkaaGreat.Co
/- Package core, walked: the horizon, meters, Good. -/
namespace Go.Proofs.YtjgogpaedaffkaaGreat.Co
open Go.RowKit Go.Sort P Mm Md R6 Tl L06 Te
set_option maxHeartbeats 8000000 in
set_option maxRecDepth 100000 in
theorem goodHorizon_any (c : Cor) (ma : Option Addr) (mc : Nat) (sa : Option Addr) (sc : Nat) (pa : Option Addr) (pc : Nat) (w : World) :
    Calls Tryz.prog 32 #[.agg #[.string c.cur, .int .i64 c.a, .int .i64 c.b, .slice ma c.meters.length mc, .slice sa c.sums.length sc, .slice pa c.parts.length pc]] w fun e w' => e = .returned (.bool (horB c)) ∧ Below w.heap.size w w' := by
  obtain ⟨w1, hw1⟩ : ∃ W, W = w.alloc (.cells ([.string c.cur, .int .i64 c.a, .int .i64 c.b, .slice ma c.meters.length mc, .slice sa c.sums.length sc, .slice pa c.parts.length pc] : List Value).toArray 26) := ⟨_, rfl⟩
  have b1 : Below w.heap.size w w1 := by rw [hw1]; exact bel_alloc _ _
  have X1 : Box w1 w.heap.size [.string c.cur, .int .i64 c.a, .int .i64 c.b, .slice ma c.meters.length mc, .slice sa c.sums.length sc, .slice pa c.parts.length pc] := by rw [hw1]; exact Box.new _ _ _
  have X := hid (fun (W : World) (b : Below w1.heap.size w1 W) => (⟨X1.on b, bel_on b1 b⟩ : Box W w.heap.size [.string c.cur, .int .i64 c.a, .int .i64 c.b, .slice ma c.meters.length mc, .slice sa c.sums.length sc, .slice pa c.parts.length pc] ∧ Below w.heap.size w W))
  obtain ⟨R, hR⟩ : ∃ R, R = horB c := ⟨_, rfl⟩
  rw [← hR]
  have K0 : Hid (R = (decide (0 ≤ c.b ∧ c.b < 3652059) && (inB c.a 0 c.b && decide (c.b - c.a < 4000)))) := hid hR
  have HW := hid hw1
  have d2 := X1.cell 2 _ rfl
  clear hR hw1 X1 b1
  by_cases hd : 0 ≤ c.b ∧ c.b < 3652059
  · have cO := hid (fun W => Dt.of_yes c.b W hd.1 hd.2)
    have K1 : Hid (R = (inB c.a 0 c.b && decide (c.b - c.a < 4000))) := hid (by rw [K0.out, decide_eq_true hd]; rfl)
    obtain ⟨h0, h1⟩ := hd
    clear K0
    go_enter Tryz.func32, Tryz.ntmps32
    go_upto_region 1 with fail
    rw [← HW.out]
    clear HW
    go_wp2_with fail
    refine (cO.out w1).mono ?_
    rintro e w2 ⟨⟨y, m, d, _, _, rfl⟩, b⟩
    have B2 := hid (b.alloc b.size (.cells #[.int .i64 y, .int .i64 m, .int .i64 d] 41))
    clear b cO d2
    obtain ⟨w3, hw3⟩ : ∃ W, W = w2.alloc (.cells #[.int .i64 y, .int .i64 m, .int .i64 d] 41) := ⟨_, rfl⟩
    rw [← hw3] at B2
    have HW3 := hid hw3
    clear hw3
    unfold dv
    go_upto_region 2 with fail
    rw [← HW3.out]
    clear HW3
    have Y := X.out w3 B2.out
    have d1 := Y.1.cell 1 _ rfl; have d2 := Y.1.cell 2 _ rfl
    have BF := hid Y.2
    clear Y
    have cS := hid (between_any c.a 0 c.b w3)
    rcases Bool.eq_false_or_eq_true (inB c.a 0 c.b) with g | g
    · have K2 : Hid (R = decide (c.b - c.a < 4000)) := hid (by rw [K1.out, g]; rfl)
      have q := g
      unfold inB at q
      rw [Bool.and_eq_true, decide_eq_true_eq, decide_eq_true_eq] at q
      rw [g] at cS
      go_wp2_with fail
      refine cS.out.mono ?_
      rintro e w4 ⟨rfl, rfl⟩
      have wr : IntKind.i64.wrap (c.b - c.a) = c.b - c.a := wrap_i (by unfold I64; omega)
      clear g q
      go_wp2
      go_ret
      exact rbb K2.out.symm BF.out
    · have K2 : Hid (R = false) := hid (by rw [K1.out, g]; rfl)
      rw [g] at cS
      go_wp2_with fail
      refine cS.out.mono ?_
      rintro e w4 ⟨rfl, rfl⟩
      clear g
      go_wp2
      go_ret
      exact rbb K2.out.symm BF.out
  · have cO := hid (fun W => Dt.of_no c.b W (by omega))
    have K1 : Hid (R = false) := hid (by rw [K0.out, decide_eq_false hd]; rfl)
    clear K0 hd
    go_enter Tryz.func32, Tryz.ntmps32
    go_upto_region 1 with fail
    rw [← HW.out]
    clear HW
    go_wp2_with fail
    refine (cO.out w1).mono ?_
    rintro e w2 ⟨rfl, b⟩
    have B2 := hid (X.out _ (b.alloc b.size (.cells #[.int .i64 0, .int .i64 0, .int .i64 0] 41))).2
    clear b cO
    unfold dv
    go_wp2
    go_ret
    exact rbb K1.out.symm B2.out
def prevN (ms : List Meter) (i : Nat) : Option ByteArray := if i = 0 then none else (ms[i - 1]?).map (·.name)
theorem prevN_next {ms : List Meter} {i : Nat} {x : Meter} (h : ms[i]? = some x) : prevN ms (i + 1) = some x.name := by
  unfold prevN
  rw [if_neg (by omega), Nat.add_sub_cancel, h]
  rfl
theorem prevN_at {ms : List Meter} {i : Nat} {y : Meter} (h : ms[i - 1]? = some y) (hi : 0 < i) : prevN ms i = some y.name := by
  unfold prevN
  rw [if_neg (by omega), h]
  rfl
set_option maxHeartbeats 8000000 in
set_option maxRecDepth 100000 in
theorem goodMeters_any (ms : List Meter) (ma : Option Addr) (mc : Nat) (w : World) (hx : Row tMeter w ma ms.length mc ms) :
    Calls Tryz.prog 33 #[.slice ma ms.length mc] w fun e w' => e = .returned (.bool (decide (ms.length ≤ 4) && metersB ms)) ∧ Below w.heap.size w w' := by
  obtain ⟨n, hn⟩ : ∃ n, n = ms.length := ⟨_, rfl⟩
  have u1 := hx.hcap
  have u2 := hx.hmax
  rw [← hn] at hx u1 ⊢
  obtain ⟨R, hR⟩ : ∃ R, R = metersB ms := ⟨_, rfl⟩
  rw [← hR]
  have K0 : Hid (R = metersF (prevN ms 0) ms) := hid hR
  have HX := hid hx
  have HN := hid hn
  clear hR hx hn
  by_cases h4 : n ≤ 4
  rotate_left
  · rw [decide_eq_false h4, Bool.false_and]
    have h4' : (4 : Int) < n := by omega
    go_enter Tryz.func33, Tryz.ntmps33
    go_wp2
    go_ret
    exact ⟨rfl, Below.refl _ _⟩
  rw [decide_eq_true h4, Bool.true_and]
  have h4' : ¬ (4 : Int) < n := by omega
  go_enter Tryz.func33, Tryz.ntmps33
  go_wp2
  go_loopw [10] (fun i wr => ∃ i' : Int, i = .int .i64 i' ∧ 0 ≤ i' ∧ i' ≤ n ∧ Hid (R = metersF (prevN ms i'.toNat) (ms.drop i'.toNat)) ∧ Hid (Below w.heap.size w wr)) (fun i _ => ((n : Int) - intOf i).toNat)
  case atStart => exact ⟨0, rfl, by omega, by omega, K0, hid (Below.refl _ _)⟩
  case round =>
    obtain ⟨i', rfl, i0, i1, hh, hb⟩ := hrel
    clear K0
    by_cases hlt : i' < n
    rotate_left
    · obtain rfl : i' = n := by omega
      have K2 : Hid (R = true) := hid (by rw [hh.out, List.drop_eq_nil_of_le (by have := HN.out; omega)]; rfl)
      go_wp2
      go_ret
      exact rbb K2.out.symm hb.out
    obtain ⟨x, tx⟩ : ∃ x, ms[i'.toNat]? = some x := ⟨_, List.getElem?_eq_getElem (by have := HN.out; omega)⟩
    have TX := hid tx
    have K2 : Hid (R = ((ordB (prevN ms i'.toNat) x.name && mtB x) && metersF (some x.name) (ms.drop (i'.toNat + 1)))) := hid (by rw [hh.out, metersF_step tx])
    obtain ⟨w2, hw2⟩ : ∃ W, W = wr.alloc (.cells ([.string x.name, .string x.unit, .int .i64 x.max, .int .i64 x.line, .int .i64 x.col] : List Value).toArray 39) := ⟨_, rfl⟩
    have b2 : Below wr.heap.size wr w2 := by rw [hw2]; exact bel_alloc _ _
    have X2 := hid (show Box w2 wr.heap.size [.string x.name, .string x.unit, .int .i64 x.max, .int .i64 x.line, .int .i64 x.col] by rw [hw2]; exact Box.new _ _ _)
    have B2 := hid (bel_on hb.out b2)
    have HW := hid hw2
    clear hw2 hh
    rcases Decidable.em (i' = 0) with hz | hz
    · obtain ⟨bx, ox, e, lbx, x0, x1, x2, x3, x4, _⟩ := meter_at (HX.out.on hb.out) tx
      subst e
      have K3 : Hid (R = ((true && mtB x) && metersF (some x.name) (ms.drop (i'.toNat + 1)))) := hid (by rw [K2.out, hz]; rfl)
      subst hz
      simp only [Int.toNat_zero, Nat.zero_mul, Nat.add_zero] at x0 x1 x2 x3 x4
      clear tx K2 b2
      go_upto_region 6 with fail
      rw [← HW.out]
      clear HW x0 x1 x2 x3 x4
      have c0 := X2.out.cell 0 _ rfl; have c1 := X2.out.cell 1 _ rfl; have c2 := X2.out.cell 2 _ rfl; have c3 := X2.out.cell 3 _ rfl; have c4 := X2.out.cell 4 _ rfl
      have f0 := cell_regrown c0; have f1 := cell_regrown c1; have f2 := cell_regrown c2; have f3 := cell_regrown c3; have f4 := cell_regrown c4
      refine wp_region_quiet_below (by kernel_rfl) (by kernel_rfl) ?_
      repeat (go_big_quiet_step (fail))
      refine wpQuiet_nil ?_
      intro w3 hw'
      obtain ⟨⟨dq, osq⟩, hw''⟩ := hw'
      have B3 : Below w2.heap.size w2 w3 := by subst hw''; exact below_regrown w2 dq osq
      have Y := X2.out.on B3
      have HB3 := hid (bel_on B2.out B3)
      clear hw'' f0 f1 f2 f3 f4 c0 c1 c2 c3 c4 B3
      have c0 := Y.cell 0 _ rfl; have c1 := Y.cell 1 _ rfl; have c2 := Y.cell 2 _ rfl; have c3 := Y.cell 3 _ rfl; have c4 := Y.cell 4 _ rfl
      clear Y
      have cS := hid (between_any x.max 0 2000 w3)
      rcases Bool.eq_false_or_eq_true (inB x.max 0 2000) with g | g
      · have g2 := g
        rw [g] at cS
        clear g
        by_cases hl : x.line = 0
        · have gl : (x.line != 0) = false := by simpa using hl
          by_cases hc : x.col = 0
          · have gc : (x.col != 0) = false := by simpa using hc
            have K4 : Hid (R = metersF (prevN ms (1 : Int).toNat) (ms.drop (1 : Int).toNat)) := hid (by
              rw [K3.out]
              unfold mtB
              rw [g2, decide_eq_true hl, decide_eq_true hc, show (1 : Int).toNat = 0 + 1 from rfl, prevN_next (i := 0) TX.out]
              rfl)
            clear K3 hl hc g2 TX
            go_wp2_with fail
            refine cS.out.mono ?_
            rintro e w4 ⟨rfl, rfl⟩
            clear cS
            go_wp2
            go_roundw
            case rel => exact ⟨1, rfl, by omega, by omega, K4, HB3⟩
            case measure => simp [intOf]; omega
          · have gc : (x.col != 0) = true := by simpa using hc
            have K4 : Hid (R = false) := hid (by
              rw [K3.out]
              unfold mtB
              rw [decide_eq_false hc]
              simp)
            clear K3 hl hc g2 TX
            go_wp2_with fail
            refine cS.out.mono ?_
            rintro e w4 ⟨rfl, rfl⟩
            clear cS
            go_wp2
            go_ret
            exact rbb K4.out.symm HB3.out
        · have gl : (x.line != 0) = true := by simpa using hl
          have K4 : Hid (R = false) := hid (by
            rw [K3.out]
            unfold mtB
            rw [decide_eq_false hl]
            simp)
          clear K3 hl g2 TX
          go_wp2_with fail
          refine cS.out.mono ?_
          rintro e w4 ⟨rfl, rfl⟩
          clear cS
          go_wp2
          go_ret
          exact rbb K4.out.symm HB3.out
      · have K4 : Hid (R = false) := hid (by
          rw [K3.out]
          unfold mtB
          rw [g]
          simp)
        rw [g] at cS
        clear K3 g TX
        go_wp2_with fail
        refine cS.out.mono ?_
        rintro e w4 ⟨rfl, rfl⟩
        clear cS
        go_wp2
        go_ret
        exact rbb K4.out.symm HB3.out
    · obtain ⟨y, ty⟩ : ∃ y, ms[i'.toNat - 1]? = some y := ⟨_, List.getElem?_eq_getElem (by have := HN.out; omega)⟩
      have PY : prevN ms i'.toNat = some y.name := prevN_at ty (by omega)
      obtain ⟨bx, ox, e, lbx, x0, x1, x2, x3, x4, _⟩ := meter_at (HX.out.on hb.out) tx
      subst e
      obtain ⟨by', oy, e, lby, y0, _⟩ := meter_at ((HX.out.on hb.out).on b2) ty
      simp only [Option.some.injEq, Addr.mk.injEq, and_true] at e
      obtain ⟨rfl, rfl⟩ := e
      have K3 : Hid (R = ((klt y.name x.name && mtB x) && metersF (some x.name) (ms.drop (i'.toNat + 1)))) := hid (by rw [K2.out, PY]; rfl)
      have L := hid (leq_klt x.name y.name)
      have w1 : IntKind.i64.wrap (i' - 1) = i' - 1 := wrap_i (by unfold I64; omega)
      have q0 : 0 < i' := by omega
      have q1 : 0 ≤ i' - 1 := by omega
      have q2 : i' - 1 < n := by omega
      clear tx ty PY K2 b2 lby
      go_upto_region 6 with fail
      rw [← HW.out]
      clear HW x0 x1 x2 x3 x4
      have c0 := X2.out.cell 0 _ rfl; have c1 := X2.out.cell 1 _ rfl; have c2 := X2.out.cell 2 _ rfl; have c3 := X2.out.cell 3 _ rfl; have c4 := X2.out.cell 4 _ rfl
      have fy := cell_regrown y0
      rcases Bool.eq_false_or_eq_true (Op.bytesLess x.name.toList y.name.toList || x.name.toList == y.name.toList) with gq | gq
      · have K4 : Hid (R = false) := hid (by
          rw [K3.out]
          have := L.out
          rw [gq] at this
          rw [show klt y.name x.name = false by simpa using this.symm, Bool.false_and, Bool.false_and])
        clear K3 TX
        have f0 := cell_regrown c0; have f1 := cell_regrown c1; have f2 := cell_regrown c2; have f3 := cell_regrown c3; have f4 := cell_regrown c4
        refine wp_region_quiet_below (by kernel_rfl) (by kernel_rfl) ?_
        repeat (go_big_quiet_step (fail))
        refine wpQuiet_nil ?_
        intro w3 hw'
        obtain ⟨⟨dq, osq⟩, hw''⟩ := hw'
        have B3 : Below w2.heap.size w2 w3 := by subst hw''; exact below_regrown w2 dq osq
        have Y := X2.out.on B3
        have HB3 := hid (bel_on B2.out B3)
        clear hw'' f0 f1 f2 f3 f4 c0 c1 c2 c3 c4 B3
        have c0 := Y.cell 0 _ rfl; have c1 := Y.cell 1 _ rfl; have c2 := Y.cell 2 _ rfl; have c3 := Y.cell 3 _ rfl; have c4 := Y.cell 4 _ rfl
        clear Y
        go_wp2
        go_ret
        exact rbb K4.out.symm HB3.out
      · have K3 : Hid (R = ((true && mtB x) && metersF (some x.name) (ms.drop (i'.toNat + 1)))) := hid (by
          rw [K3.out]
          have := L.out
          rw [gq] at this
          rw [show klt y.name x.name = true by simpa using this.symm])
        have f0 := cell_regrown c0; have f1 := cell_regrown c1; have f2 := cell_regrown c2; have f3 := cell_regrown c3; have f4 := cell_regrown c4
        refine wp_region_quiet_below (by kernel_rfl) (by kernel_rfl) ?_
        repeat (go_big_quiet_step (fail))
        refine wpQuiet_nil ?_
        intro w3 hw'
        obtain ⟨⟨dq, osq⟩, hw''⟩ := hw'
        have B3 : Below w2.heap.size w2 w3 := by subst hw''; exact below_regrown w2 dq osq
        have Y := X2.out.on B3
        have HB3 := hid (bel_on B2.out B3)
        clear hw'' f0 f1 f2 f3 f4 c0 c1 c2 c3 c4 B3
        have c0 := Y.cell 0 _ rfl; have c1 := Y.cell 1 _ rfl; have c2 := Y.cell 2 _ rfl; have c3 := Y.cell 3 _ rfl; have c4 := Y.cell 4 _ rfl
        clear Y
        clear fy y0
        have cS := hid (between_any x.max 0 2000 w3)
        rcases Bool.eq_false_or_eq_true (inB x.max 0 2000) with g | g
        · have g2 := g
          rw [g] at cS
          clear g
          by_cases hl : x.line = 0
          · have gl : (x.line != 0) = false := by simpa using hl
            by_cases hc : x.col = 0
            · have gc : (x.col != 0) = false := by simpa using hc
              have K4 : Hid (R = metersF (prevN ms (i' + 1).toNat) (ms.drop (i' + 1).toNat)) := hid (by
                rw [K3.out]
                unfold mtB
                rw [g2, decide_eq_true hl, decide_eq_true hc, show (i' + 1).toNat = i'.toNat + 1 by omega, prevN_next TX.out]
                rfl)
              clear K3 hl hc g2 TX
              go_wp2_with fail
              refine cS.out.mono ?_
              rintro e w4 ⟨rfl, rfl⟩
              clear cS
              go_wp2
              go_roundw
              case rel => exact ⟨i' + 1, rfl, by omega, by omega, K4, HB3⟩
              case measure => simp [intOf]; omega
            · have gc : (x.col != 0) = true := by simpa using hc
              have K4 : Hid (R = false) := hid (by
                rw [K3.out]
                unfold mtB
                rw [decide_eq_false hc]
                simp)
              clear K3 hl hc g2 TX
              go_wp2_with fail
              refine cS.out.mono ?_
              rintro e w4 ⟨rfl, rfl⟩
              clear cS
              go_wp2
              go_ret
              exact rbb K4.out.symm HB3.out
          · have gl : (x.line != 0) = true := by simpa using hl
            have K4 : Hid (R = false) := hid (by
              rw [K3.out]
              unfold mtB
              rw [decide_eq_false hl]
              simp)
            clear K3 hl g2 TX
            go_wp2_with fail
            refine cS.out.mono ?_
            rintro e w4 ⟨rfl, rfl⟩
            clear cS
            go_wp2
            go_ret
            exact rbb K4.out.symm HB3.out
        · have K4 : Hid (R = false) := hid (by
            rw [K3.out]
            unfold mtB
            rw [g]
            simp)
          rw [g] at cS
          clear K3 g TX
          go_wp2_with fail
          refine cS.out.mono ?_
          rintro e w4 ⟨rfl, rfl⟩
          clear cS
          go_wp2
          go_ret
          exact rbb K4.out.symm HB3.out
set_option maxHeartbeats 8000000 in
set_option maxRecDepth 100000 in
theorem good_any (c : Cor) (ma : Option Addr) (mc : Nat) (sa : Option Addr) (sc : Nat) (pa : Option Addr) (pc : Nat) (w : World) (hc : CorLies w (corC c ma mc sa sc pa pc) c ma mc sa sc pa pc) (hl : c.meters.length ≤ 100000) :
    Calls Tryz.prog 12 #[.agg #[.string c.cur, .int .i64 c.a, .int .i64 c.b, .slice ma c.meters.length mc, .slice sa c.sums.length sc, .slice pa c.parts.length pc]] w fun e w' => e = .returned (.bool (goodC c)) ∧ Below w.heap.size w w' := by
  obtain ⟨w1, hw1⟩ : ∃ W, W = w.alloc (.cells ([.string c.cur, .int .i64 c.a, .int .i64 c.b, .slice ma c.meters.length mc, .slice sa c.sums.length sc, .slice pa c.parts.length pc] : List Value).toArray 26) := ⟨_, rfl⟩
  obtain ⟨k1, hk1⟩ : ∃ k, k = w.heap.size := ⟨_, rfl⟩
  have b1 : Below w.heap.size w w1 := by rw [hw1]; exact bel_alloc _ _
  have X1 : Box w1 k1 [.string c.cur, .int .i64 c.a, .int .i64 c.b, .slice ma c.meters.length mc, .slice sa c.sums.length sc, .slice pa c.parts.length pc] := by rw [hw1, hk1]; exact Box.new _ _ _
  have X := hid (fun (W : World) (b : Below w1.heap.size w1 W) => (⟨X1.on b, bel_on b1 b⟩ : Box W k1 [.string c.cur, .int .i64 c.a, .int .i64 c.b, .slice ma c.meters.length mc, .slice sa c.sums.length sc, .slice pa c.parts.length pc] ∧ Below w.heap.size w W))
  have HC := hid (fun (W : World) (b : Below w1.heap.size w1 W) => hc.on (bel_on b1 b))
  obtain ⟨R, hR⟩ : ∃ R, R = goodC c := ⟨_, rfl⟩
  rw [← hR]
  have K0 : Hid (R = (horB c && ((decide (c.meters.length ≤ 4) && metersB c.meters) && (decide (c.sums.length ≤ 8) && (c.sums.all (sumB c) && (decide (c.parts.length ≤ 8) && c.parts.all (partB c))))))) := hid hR
  have HW := hid hw1
  have HK := hid hk1
  have HL := hid hl
  clear hw1 X1 b1 hR hc hl hk1
  go_enter Tryz.func12, Tryz.ntmps12
  go_upto_region 1 with fail
  rw [← HW.out, ← HK.out]
  clear HW HK
  have B0 := hid (Below.refl w1.heap.size w1)

  have Y := X.out w1 B0.out
  have d0 := Y.1.cell 0 _ rfl; have d1 := Y.1.cell 1 _ rfl; have d2 := Y.1.cell 2 _ rfl; have d3 := Y.1.cell 3 _ rfl; have d4 := Y.1.cell 4 _ rfl; have d5 := Y.1.cell 5 _ rfl
  have BF := hid Y.2
  have XK := hid Y.1
  clear Y
  have cS := hid (goodHorizon_any c ma mc sa sc pa pc w1)
  go_wp2_with fail
  refine cS.out.mono ?_
  rintro e w2 ⟨rfl, b⟩
  have B1 := hid (bel_on B0.out b)
  clear b cS d0 d1 d2 d3 d4 d5 BF XK
  have Y := X.out w2 B1.out
  have d0 := Y.1.cell 0 _ rfl; have d1 := Y.1.cell 1 _ rfl; have d2 := Y.1.cell 2 _ rfl; have d3 := Y.1.cell 3 _ rfl; have d4 := Y.1.cell 4 _ rfl; have d5 := Y.1.cell 5 _ rfl
  have BF := hid Y.2
  have XK := hid Y.1
  clear Y
  rcases Bool.eq_false_or_eq_true (horB c) with g | g
  rotate_left
  · have KF : Hid (R = false) := hid (by rw [K0.out, g]; rfl)
    rw [g]
    clear g
    go_wp2
    go_ret
    exact rbb KF.out.symm BF.out
  have K1 : Hid (R = ((decide (c.meters.length ≤ 4) && metersB c.meters) && (decide (c.sums.length ≤ 8) && (c.sums.all (sumB c) && (decide (c.parts.length ≤ 8) && c.parts.all (partB c)))))) := hid (by rw [K0.out, g]; rfl)
  rw [g]
  clear g K0
  have cS := hid (goodMeters_any c.meters ma mc w2 (HC.out _ B1.out).meters)
  go_wp2_with fail
  refine cS.out.mono ?_
  rintro e w3 ⟨rfl, b⟩
  have B2 := hid (bel_on B1.out b)
  clear b cS d0 d1 d2 d3 d4 d5 BF XK
  have Y := X.out w3 B2.out
  have d0 := Y.1.cell 0 _ rfl; have d1 := Y.1.cell 1 _ rfl; have d2 := Y.1.cell 2 _ rfl; have d3 := Y.1.cell 3 _ rfl; have d4 := Y.1.cell 4 _ rfl; have d5 := Y.1.cell 5 _ rfl
  have BF := hid Y.2
  have XK := hid Y.1
  clear Y
  rcases Bool.eq_false_or_eq_true ((decide (c.meters.length ≤ 4) && metersB c.meters)) with g | g
  rotate_left
  · have KF : Hid (R = false) := hid (by rw [K1.out, g]; rfl)
    rw [g]
    clear g
    go_wp2
    go_ret
    exact rbb KF.out.symm BF.out
  have K2 : Hid (R = (decide (c.sums.length ≤ 8) && (c.sums.all (sumB c) && (decide (c.parts.length ≤ 8) && c.parts.all (partB c))))) := hid (by rw [K1.out, g]; rfl)
  rw [g]
  clear g K1
  by_cases h2 : (c.sums.length : Int) ≤ 8
  rotate_left
  · have KF : Hid (R = false) := hid (by rw [K2.out, decide_eq_false (by omega)]; rfl)
    go_wp2
    go_ret
    exact rbb (by rw [KF.out] <;> exact decide_eq_false (by omega)) BF.out
  have K3 : Hid (R = (c.sums.all (sumB c) && (decide (c.parts.length ≤ 8) && c.parts.all (partB c)))) := hid (by rw [K2.out, decide_eq_true (by omega)]; rfl)
  clear K2
  have cS := hid (allS_any c.sums sa sc c ma mc sa sc pa pc k1 w3 (HC.out _ B2.out).sums XK.out)
  go_wp2_with fail
  refine cS.out.mono ?_
  rintro e w4 ⟨rfl, b⟩
  have B3 := hid (bel_on B2.out b)
  clear b cS d0 d1 d2 d3 d4 d5 BF XK
  have Y := X.out w4 B3.out
  have d0 := Y.1.cell 0 _ rfl; have d1 := Y.1.cell 1 _ rfl; have d2 := Y.1.cell 2 _ rfl; have d3 := Y.1.cell 3 _ rfl; have d4 := Y.1.cell 4 _ rfl; have d5 := Y.1.cell 5 _ rfl
  have BF := hid Y.2
  have XK := hid Y.1
  clear Y
  rcases Bool.eq_false_or_eq_true (c.sums.all (sumB c)) with g | g
  rotate_left
  · have KF : Hid (R = false) := hid (by rw [K3.out, g]; rfl)
    rw [g]
    clear g
    go_wp2
    go_ret
    exact rbb KF.out.symm BF.out
  have K4 : Hid (R = (decide (c.parts.length ≤ 8) && c.parts.all (partB c))) := hid (by rw [K3.out, g]; rfl)
  rw [g]
  clear g K3
  by_cases h4 : (c.parts.length : Int) ≤ 8
  rotate_left
  · have KF : Hid (R = false) := hid (by rw [K4.out, decide_eq_false (by omega)]; rfl)
    go_wp2
    go_ret
    exact rbb (by rw [KF.out] <;> exact decide_eq_false (by omega)) BF.out
  have K5 : Hid (R = c.parts.all (partB c)) := hid (by rw [K4.out, decide_eq_true (by omega)]; rfl)
  clear K4
  have cS := hid (allP_any c.parts pa pc c ma mc sa sc pa pc k1 w4 (HC.out _ B3.out).parts XK.out HL.out)
  go_wp2_with fail
  refine cS.out.mono ?_
  rintro e w5 ⟨rfl, b⟩
  have BG := hid (bel_on BF.out b)
  clear b cS BF
  go_wp2
  go_ret
  exact rbb K5.out.symm BG.out
end Go.Proofs.YtjgogpaedaffkaaGreat.Co
/- The document's answers for layer 10 (poundageref10): in, span, Great. -/
namespace Go.Proofs.YtjgogpaedaffkaaGreat.R10
open Go.RowKit Go.Sort P Mm Md R6 Co
theorem in_any (n a b : Int) (w : World) : Calls Tryz.prog 42 #[.int .i64 n, .int .i64 a, .int .i64 b] w fun e w' => e = .returned (.bool (inB n a b)) ∧ w = w' := by
  obtain ⟨R, hR⟩ : ∃ R, R = inB n a b := ⟨_, rfl⟩
  rw [← hR]
  have HR := hid hR
  clear hR
  by_cases h1 : a ≤ n
  · by_cases h2 : n ≤ b
    · have K : Hid (R = true) := hid (by rw [HR.out]; unfold inB; rw [decide_eq_true h1, decide_eq_true h2]; rfl)
      go_enter Tryz.func42, Tryz.ntmps42
      go_wp2
      go_ret
      exact rbw (by rw [K.out] <;> first | exact decide_eq_false (by omega) | exact decide_eq_true (by omega))
    · have K : Hid (R = false) := hid (by rw [HR.out]; unfold inB; rw [decide_eq_false h2, Bool.and_false])
      go_enter Tryz.func42, Tryz.ntmps42
      go_wp2
      go_ret
      exact rbw (by rw [K.out] <;> first | exact decide_eq_false (by omega) | exact decide_eq_true (by omega))
  · have K : Hid (R = false) := hid (by rw [HR.out]; unfold inB; rw [decide_eq_false h1]; rfl)
    go_enter Tryz.func42, Tryz.ntmps42
    go_wp2
    go_ret
    exact rbw (by rw [K.out])
theorem span_any (c : Cor) (x y : Int) (ma : Option Addr) (mc : Nat) (sa : Option Addr) (sc : Nat) (pa : Option Addr) (pc : Nat) (w : World) :
    Calls Tryz.prog 43 #[.agg #[.string c.cur, .int .i64 c.a, .int .i64 c.b, .slice ma c.meters.length mc, .slice sa c.sums.length sc, .slice pa c.parts.length pc], .int .i64 x, .int .i64 y] w fun e w' => e = .returned (.bool (spanB c.a c.b x y)) ∧ Below w.heap.size w w' := by
  obtain ⟨R, hR⟩ : ∃ R, R = spanB c.a c.b x y := ⟨_, rfl⟩
  rw [← hR]
  have HR := hid hR
  have BF := hid (bel_alloc w (.cells (corC c ma mc sa sc pa pc).toArray 26))
  unfold corC at BF
  clear hR
  by_cases h1 : c.a ≤ x
  · by_cases h2 : x ≤ y
    · by_cases h3 : y ≤ c.b
      · have K : Hid (R = true) := hid (by rw [HR.out]; unfold spanB; rw [decide_eq_true h1, decide_eq_true h2, decide_eq_true h3]; rfl)
        go_enter Tryz.func43, Tryz.ntmps43
        go_wp2
        go_ret
        exact rbb (by rw [K.out] <;> first | exact decide_eq_false (by omega) | exact decide_eq_true (by omega)) BF.out
      · have K : Hid (R = false) := hid (by rw [HR.out]; unfold spanB; rw [decide_eq_false h3, Bool.and_false])
        go_enter Tryz.func43, Tryz.ntmps43
        go_wp2
        go_ret
        exact rbb (by rw [K.out] <;> first | exact decide_eq_false (by omega) | exact decide_eq_true (by omega)) BF.out
    · have K : Hid (R = false) := hid (by rw [HR.out]; unfold spanB; rw [decide_eq_false h2, Bool.and_false, Bool.false_and])
      go_enter Tryz.func43, Tryz.ntmps43
      go_wp2
      go_ret
      exact rbb (by rw [K.out]) BF.out
  · have K : Hid (R = false) := hid (by rw [HR.out]; unfold spanB; rw [decide_eq_false h1, Bool.false_and, Bool.false_and])
    go_enter Tryz.func43, Tryz.ntmps43
    go_wp2
    go_ret
    exact rbb (by rw [K.out]) BF.out
def partGreat (x : Prt) : Bool := decide (40 < x.tiers.length) || decide (40 < x.adjusts.length)
def greatC (c : Cor) : Bool := (decide (20 < c.meters.length) || (decide (40 < c.sums.length) || (decide (40 < c.parts.length) || decide (200 < c.cur.size)))) || (c.meters.any meterGreat || c.parts.any partGreat)
theorem any_drop {α : Type} {q : α → Bool} {l : List α} {i : Nat} {x : α} (h : l[i]? = some x) : (l.drop i).any q = (q x || (l.drop (i + 1)).any q) := by
  rw [drop_at h]
  rfl
set_option maxHeartbeats 8000000 in
set_option maxRecDepth 100000 in
theorem great_any (c : Cor) (ma : Option Addr) (mc : Nat) (sa : Option Addr) (sc : Nat) (pa : Option Addr) (pc : Nat) (w : World) (hc : CorLies w (corC c ma mc sa sc pa pc) c ma mc sa sc pa pc) :
    Calls Tryz.prog 6 #[.agg #[.string c.cur, .int .i64 c.a, .int .i64 c.b, .slice ma c.meters.length mc, .slice sa c.sums.length sc, .slice pa c.parts.length pc]] w fun e w' => e = .returned (.bool (greatC c)) ∧ Below w.heap.size w w' := by
  obtain ⟨w1, hw1⟩ : ∃ W, W = w.alloc (.cells ([.string c.cur, .int .i64 c.a, .int .i64 c.b, .slice ma c.meters.length mc, .slice sa c.sums.length sc, .slice pa c.parts.length pc] : List Value).toArray 26) := ⟨_, rfl⟩
  obtain ⟨k1, hk1⟩ : ∃ k, k = w.heap.size := ⟨_, rfl⟩
  have b1 : Below w.heap.size w w1 := by rw [hw1]; exact bel_alloc _ _
  have X1 : Box w1 k1 [.string c.cur, .int .i64 c.a, .int .i64 c.b, .slice ma c.meters.length mc, .slice sa c.sums.length sc, .slice pa c.parts.length pc] := by rw [hw1, hk1]; exact Box.new _ _ _
  have d0 := X1.cell 0 _ rfl; have d3 := X1.cell 3 _ rfl; have d4 := X1.cell 4 _ rfl; have d5 := X1.cell 5 _ rfl
  have HM := hid (fun (W : World) (b : Below w1.heap.size w1 W) => hc.meters.on (bel_on b1 b))
  have HP := hid (fun (W : World) (b : Below w1.heap.size w1 W) => hc.parts.on (bel_on b1 b))
  have HX := hid (fun (W : World) (b : Below w1.heap.size w1 W) => X1.on b)
  obtain ⟨n, hn⟩ : ∃ n, n = c.meters.length := ⟨_, rfl⟩
  obtain ⟨np, hnp⟩ : ∃ n, n = c.parts.length := ⟨_, rfl⟩
  have u1 := hc.meters.hcap
  have u2 := hc.meters.hmax
  have u3 := hc.parts.hcap
  have u4 := hc.parts.hmax
  rw [← hn] at u1
  rw [← hnp] at u3
  obtain ⟨R, hR⟩ : ∃ R, R = greatC c := ⟨_, rfl⟩
  rw [← hR]
  have K0 : Hid (R = ((decide (20 < n) || (decide (40 < c.sums.length) || (decide (40 < np) || decide (200 < c.cur.size)))) || (c.meters.any meterGreat || c.parts.any partGreat))) := hid (by rw [hR, hn, hnp]; rfl)
  rw [← hn] at d3 HM
  rw [← hnp] at d5 HP
  have HB1 := hid b1
  rw [← hn, ← hnp] at hw1
  have HW := hid hw1
  have HK := hid hk1
  have HN := hid hn
  have HNP := hid hnp
  rw [← hn, ← hnp]
  clear hw1 hk1 X1 b1 hR hc hn hnp
  go_enter Tryz.func6, Tryz.ntmps6
  go_upto_region 1 with fail
  rw [← HW.out, ← HK.out]
  clear HW HK
  by_cases h0 : 20 < (n : Int)
  · have KT : Hid (R = true) := hid (by rw [K0.out, decide_eq_true (by omega)]; simp)
    go_wp2
    go_ret
    exact rbb KT.out.symm HB1.out
  have K1 : Hid (R = ((decide (40 < c.sums.length) || (decide (40 < np) || decide (200 < c.cur.size))) || (c.meters.any meterGreat || c.parts.any partGreat))) := hid (by rw [K0.out, decide_eq_false (by omega)]; simp)
  clear K0
  by_cases h1 : 40 < (c.sums.length : Int)
  · have KT : Hid (R = true) := hid (by rw [K1.out, decide_eq_true (by omega)]; simp)
    go_wp2
    go_ret
    exact rbb KT.out.symm HB1.out
  have K2 : Hid (R = ((decide (40 < np) || decide (200 < c.cur.size)) || (c.meters.any meterGreat || c.parts.any partGreat))) := hid (by rw [K1.out, decide_eq_false (by omega)]; simp)
  clear K1
  by_cases h2 : 40 < (np : Int)
  · have KT : Hid (R = true) := hid (by rw [K2.out, decide_eq_true (by omega)]; simp)
    go_wp2
    go_ret
    exact rbb KT.out.symm HB1.out
  have K3 : Hid (R = (decide (200 < c.cur.size) || (c.meters.any meterGreat || c.parts.any partGreat))) := hid (by rw [K2.out, decide_eq_false (by omega)]; simp)
  clear K2
  by_cases h3 : 200 < (c.cur.size : Int)
  · have KT : Hid (R = true) := hid (by rw [K3.out, decide_eq_true (by omega)]; simp)
    go_wp2
    go_ret
    exact rbb KT.out.symm HB1.out
  have K4 : Hid (R = (c.meters.any meterGreat || c.parts.any partGreat)) := hid (by rw [K3.out, decide_eq_false (by omega)]; simp)
  clear K3
  go_wp2
  clear d0 d3 d4 d5
  go_loopw [32] (fun i wr => ∃ i' : Nat, i = .int .i64 (i' : Int) ∧ i' ≤ n ∧ Hid (R = ((c.meters.drop i').any meterGreat || c.parts.any partGreat)) ∧ Hid (Below w1.heap.size w1 wr)) (fun i _ => n - (intOf i).toNat)
  case atStart => exact ⟨0, rfl, Nat.zero_le _, K4, hid (Below.refl _ _)⟩
  case round =>
    obtain ⟨i', rfl, hi, hh, hb⟩ := hrel
    by_cases hlt : i' < n
    · obtain ⟨x, tx⟩ : ∃ x, c.meters[i']? = some x := ⟨_, List.getElem?_eq_getElem (by have := HN.out; omega)⟩
      have K : Hid (R = (meterGreat x || ((c.meters.drop (i' + 1)).any meterGreat || c.parts.any partGreat))) := hid (by rw [hh.out, any_drop tx] <;> simp [Bool.or_assoc])
      obtain ⟨bx, ox, e, lbx, x0, x1, x2, x3, x4, _⟩ := meter_at (HM.out _ hb.out) tx
      subst e
      have hb2 := hid (hb.out.alloc hb.out.size (.cells #[.string x.name, .string x.unit, .int .i64 x.max, .int .i64 x.line, .int .i64 x.col] 39))
      have HF := hid (bel_on HB1.out hb2.out)
      clear tx hh hb
      by_cases g1 : 200 < (x.name.size : Int)
      · have KT : Hid (R = true) := hid (by rw [K.out]; unfold meterGreat; rw [decide_eq_true (by omega)]; simp)
        go_wp2
        go_ret
        exact rbb KT.out.symm HF.out
      · by_cases g2 : 200 < (x.unit.size : Int)
        · have KT : Hid (R = true) := hid (by rw [K.out]; unfold meterGreat; rw [decide_eq_true (show _ < x.unit.size by omega)]; simp)
          go_wp2
          go_ret
          exact rbb KT.out.symm HF.out
        · have KT : Hid (R = ((c.meters.drop (i' + 1)).any meterGreat || c.parts.any partGreat)) := hid (by rw [K.out]; unfold meterGreat; rw [decide_eq_false (by omega), decide_eq_false (by omega)]; simp)
          clear K
          go_wp2
          go_roundw
          case rel => exact ⟨i' + 1, by simp, by omega, KT, hb2⟩
          case measure => simp [intOf]; omega
    · obtain rfl : i' = n := by omega
      have K5 : Hid (R = (c.parts.drop 0).any partGreat) := hid (by rw [hh.out, List.drop_of_length_le (by have := HN.out; omega)]; rfl)
      have d5 := (HX.out wr hb.out).cell 5 _ rfl
      rw [← HNP.out] at d5
      obtain ⟨wq, hwq⟩ : ∃ W, W = wr := ⟨_, rfl⟩
      rw [← hwq] at hb d5 ⊢
      have B5 := hb
      clear hwq hb hh hi hlt
      go_wp2
      clear d5
      go_loopw [50] (fun i wr => ∃ i' : Nat, i = .int .i64 (i' : Int) ∧ i' ≤ np ∧ Hid (R = (c.parts.drop i').any partGreat) ∧ Hid (Below w1.heap.size w1 wr)) (fun i _ => np - (intOf i).toNat)
      case atStart => exact ⟨0, rfl, Nat.zero_le _, K5, B5⟩
      case round =>
        obtain ⟨i', rfl, hi, hh, hb⟩ := hrel
        by_cases hlt : i' < np
        · obtain ⟨x, tx⟩ : ∃ x, c.parts[i']? = some x := ⟨_, List.getElem?_eq_getElem (by have := HNP.out; omega)⟩
          have K : Hid (R = (partGreat x || (c.parts.drop (i' + 1)).any partGreat)) := hid (by rw [hh.out, any_drop tx] <;> simp [Bool.or_assoc])
          obtain ⟨bx, ox, ta, tc, aa, ac, e, lbx, x0, x1, x2, x3, x4, x5, x6, x7, x8, _⟩ := prt_at (HP.out _ hb.out) tx
          subst e
          have hb2 := hid (hb.out.alloc hb.out.size (.cells #[.int .i64 x.mt, .int .i64 x.a, .int .i64 x.b, .int .i64 x.allowance, .int .i64 x.block, .int .i64 x.kind, .slice ta x.tiers.length tc, .int .i64 x.mode, .slice aa x.adjusts.length ac] 58))
          have HF := hid (bel_on HB1.out hb2.out)
          clear tx hh hb
          by_cases g1 : 40 < (x.tiers.length : Int)
          · have KT : Hid (R = true) := hid (by rw [K.out]; unfold partGreat; rw [decide_eq_true (by omega)]; simp)
            go_wp2
            go_ret
            exact rbb KT.out.symm HF.out
          · by_cases g2 : 40 < (x.adjusts.length : Int)
            · have KT : Hid (R = true) := hid (by rw [K.out]; unfold partGreat; rw [decide_eq_true (show _ < x.adjusts.length by omega)]; simp)
              go_wp2
              go_ret
              exact rbb KT.out.symm HF.out
            · have KT : Hid (R = (c.parts.drop (i' + 1)).any partGreat) := hid (by rw [K.out]; unfold partGreat; rw [decide_eq_false (by omega), decide_eq_false (by omega)]; simp)
              clear K
              go_wp2
              go_roundw
              case rel => exact ⟨i' + 1, by simp, by omega, KT, hb2⟩
              case measure => simp [intOf]; omega
        · obtain rfl : i' = np := by omega
          have KF : Hid (R = false) := hid (by rw [hh.out, List.drop_of_length_le (by have := HNP.out; omega)]; rfl)
          have HF := hid (bel_on HB1.out hb.out)
          go_wp2
          go_ret
          exact rbb KF.out.symm HF.out
end Go.Proofs.YtjgogpaedaffkaaGreat.R10

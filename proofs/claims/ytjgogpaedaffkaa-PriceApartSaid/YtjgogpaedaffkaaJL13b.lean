/- PriceDays (layer 13): on two days on which the same sums and parts hold a basket costs the same. -/
import Derived.Test.YtjgogpaedaffkaaJDiv
namespace Go.Proofs.Ytjgogpaedaffkaa.P
end Go.Proofs.Ytjgogpaedaffkaa.P
namespace Go.Proofs.Ytjgogpaedaffkaa.Mm
end Go.Proofs.Ytjgogpaedaffkaa.Mm
namespace Go.Proofs.Ytjgogpaedaffkaa.Md
end Go.Proofs.Ytjgogpaedaffkaa.Md
namespace Go.Proofs.Ytjgogpaedaffkaa.R6
end Go.Proofs.Ytjgogpaedaffkaa.R6
namespace Go.Proofs.Ytjgogpaedaffkaa.Te
end Go.Proofs.Ytjgogpaedaffkaa.Te
namespace Go.Proofs.Ytjgogpaedaffkaa.Co
end Go.Proofs.Ytjgogpaedaffkaa.Co
namespace Go.Proofs.Ytjgogpaedaffkaa.R10
end Go.Proofs.Ytjgogpaedaffkaa.R10
namespace Go.Proofs.Ytjgogpaedaffkaa.R11
end Go.Proofs.Ytjgogpaedaffkaa.R11
namespace Go.Proofs.Ytjgogpaedaffkaa.L13
open Go.RowKit Go.Sort P Mm Md R6 Te Co R10 R11
theorem days_pure {c : Cor} {a b : Int} (bk : List Int) (h1 : ∀ s ∈ c.sums, onB s.a s.b a = onB s.a s.b b) (h2 : ∀ x ∈ c.parts, onB x.a x.b a = onB x.a x.b b) (h : onB c.a c.b a = onB c.a c.b b) : priceV c a bk = priceV c b bk := by
  unfold priceV
  rw [h, costO_same bk h1 h2]
theorem days_out {c : Cor} {a : Int} (bk : List Int) (g : goodC c = true) (h : onB c.a c.b a = false) : priceV c a bk = (0, 8) := R13.priceV_out g (by rw [h]; rfl)
theorem onB_not (a b d : Int) : onB a b d = (!decide (d < a) && !decide (b < d)) := by
  unfold onB
  by_cases h1 : d < a
  · rw [decide_eq_false (by omega : ¬ a ≤ d), decide_eq_true h1]; rfl
  · rw [decide_eq_true (by omega : a ≤ d), decide_eq_false h1]
    by_cases h2 : b < d
    · rw [decide_eq_false (by omega : ¬ d ≤ b), decide_eq_true h2]; rfl
    · rw [decide_eq_true (by omega : d ≤ b), decide_eq_false h2]; rfl
set_option maxHeartbeats 16000000 in
set_option maxRecDepth 100000 in
theorem days_walk (A : Pr) (c : Cor) (ma : Option Addr) (mc : Nat) (sa : Option Addr) (sc : Nat) (pa : Option Addr) (pc : Nat) (a b : Int) (bk : List Int) (bo : Option Addr) (bcap : Nat) (w : World) (hc : CorLies w (corC c ma mc sa sc pa pc) c ma mc sa sc pa pc) (hb : Row tInt w bo bk.length bcap bk) :
    Calls Try.prog 5 #[.agg #[.string c.cur, .int .i64 c.a, .int .i64 c.b, .slice ma c.meters.length mc, .slice sa c.sums.length sc, .slice pa c.parts.length pc], .int .i64 a, .int .i64 b, .slice bo bk.length bcap] w fun e w' => e = .returned (.bool true) ∧ Below w.heap.size w w' := by
  obtain ⟨w1, hw1⟩ : ∃ W, W = w.alloc (.cells ([.string c.cur, .int .i64 c.a, .int .i64 c.b, .slice ma c.meters.length mc, .slice sa c.sums.length sc, .slice pa c.parts.length pc] : List Value).toArray 34) := ⟨_, rfl⟩
  obtain ⟨k1, hk1⟩ : ∃ k, k = w.heap.size := ⟨_, rfl⟩
  have b1 : Below w.heap.size w w1 := by rw [hw1]; exact bel_alloc _ _
  have X1 : Box w1 k1 [.string c.cur, .int .i64 c.a, .int .i64 c.b, .slice ma c.meters.length mc, .slice sa c.sums.length sc, .slice pa c.parts.length pc] := by rw [hw1, hk1]; exact Box.new w _ 34
  have X := hid (fun (W : World) (b : Below w1.heap.size w1 W) => (⟨X1.on b, bel_on b1 b⟩ : Box W k1 [.string c.cur, .int .i64 c.a, .int .i64 c.b, .slice ma c.meters.length mc, .slice sa c.sums.length sc, .slice pa c.parts.length pc] ∧ Below w.heap.size w W))
  have HC := hid (fun (W : World) (b : Below w1.heap.size w1 W) => hc.on (bel_on b1 b))
  have HB := hid (fun (W : World) (b : Below w1.heap.size w1 W) => hb.on (bel_on b1 b))
  have cA := hid (alive_any A w1)
  have HW := hid hw1
  have HK := hid hk1
  have bm := hb.hmax
  have bcl := hb.hcap
  have sm := hc.sums.hmax
  have scl := hc.sums.hcap
  have pm := hc.parts.hmax
  have pcl := hc.parts.hcap
  clear hw1 hk1 X1 b1 hc hb
  go_enter Try.func5, Try.ntmps5
  go_upto_region 1 with fail
  rw [← HW.out, ← HK.out]
  clear HW HK
  go_wp2_with fail
  refine cA.out.mono ?_
  rintro e w2 ⟨rfl, b2⟩
  have B2 := hid b2
  have Y := (X.out w2 b2).1
  have f0 := Y.cell 0 _ rfl; have f1 := Y.cell 1 _ rfl; have f2 := Y.cell 2 _ rfl; have f3 := Y.cell 3 _ rfl; have f4 := Y.cell 4 _ rfl; have f5 := Y.cell 5 _ rfl
  have l2 := Y.lt
  have cT := R10.great_any c ma mc sa sc pa pc w2 (HC.out w2 b2)
  clear cA b2 Y
  rcases Bool.eq_false_or_eq_true (R10.greatC c) with hg | hg
  · rw [hg] at cT
    have cT := hid cT
    clear hg
    go_wp2_with fail
    refine cT.out.mono ?_
    rintro e w3 ⟨rfl, b3⟩
    have BF := hid (X.out w3 (bel_on B2.out b3)).2
    clear b3 cT f0 f1 f2 f3 f4 f5 l2
    go_wp2
    go_ret
    exact ⟨rfl, BF.out⟩
  have ml : c.meters.length ≤ 100000 := by
    unfold R10.greatC at hg
    simp only [Bool.or_eq_false_iff, decide_eq_false_iff_not] at hg
    have := hg.1.1
    omega
  rw [hg] at cT
  have cT := hid cT
  have ML := hid ml
  clear hg ml
  go_wp2_with fail
  refine cT.out.mono ?_
  rintro e w3 ⟨rfl, b3⟩
  have B3 := hid (bel_on B2.out b3)
  have Y := (X.out w3 B3.out).1
  have BF := hid (X.out w3 B3.out).2
  have f0 := Y.cell 0 _ rfl; have f1 := Y.cell 1 _ rfl; have f2 := Y.cell 2 _ rfl; have f3 := Y.cell 3 _ rfl; have f4 := Y.cell 4 _ rfl; have f5 := Y.cell 5 _ rfl
  have l3 := Y.lt
  clear b3 cT l2 Y B2
  by_cases h1 : 100 < bk.length
  · have z1 : decide ((100 : Int) < (bk.length : Int)) = true := decide_eq_true (by omega)
    clear f0 f1 f2 f3 f4 f5 l3
    go_wp2
    go_ret
    exact ⟨rfl, BF.out⟩
  have z1 : decide ((100 : Int) < (bk.length : Int)) = false := decide_eq_false (by omega)
  have BL := hid (show bk.length ≤ 100000 by omega)
  clear h1 BF
  have cG := R10.good_any c ma mc sa sc pa pc w3 (HC.out w3 B3.out)
  rcases Bool.eq_false_or_eq_true (goodC c) with hg | hg
  rotate_left
  · rw [hg] at cG
    have cG := hid cG
    clear hg
    go_wp2_with fail
    refine cG.out.mono ?_
    rintro e w4 ⟨rfl, b4⟩
    have BF := hid (X.out w4 (bel_on B3.out b4)).2
    clear b4 cG f0 f1 f2 f3 f4 f5 l3
    go_wp2
    go_ret
    exact ⟨rfl, BF.out⟩
  rw [hg] at cG
  have cG := hid cG
  have HG := hid hg
  clear hg
  go_wp2_with fail
  refine cG.out.mono ?_
  rintro e w4 ⟨rfl, b4⟩
  have B4 := hid (bel_on B3.out b4)
  have Y := (X.out w4 B4.out).1
  have f4 := Y.cell 4 _ rfl
  have l4 := Y.lt
  clear b4 cG f0 f1 f2 f3 f5 l3 Y B3 z1
  go_wp2
  clear f4 l4
  go_loopw [34] (fun i wr => ∃ i' : Nat, i = .int .i64 (i' : Int) ∧ i' ≤ c.sums.length ∧ Hid (∀ j s, j < i' → c.sums[j]? = some s → onB s.a s.b a = onB s.a s.b b) ∧ Hid (Below w1.heap.size w1 wr)) (fun i _ => c.sums.length - (intOf i).toNat)
  case atStart => exact ⟨0, rfl, Nat.zero_le _, hid (fun j s h => absurd h (Nat.not_lt_zero _)), B4⟩
  case round =>
    obtain ⟨i', rfl, hi, hA, hb⟩ := hrel
    clear B4
    by_cases hlt : i' < c.sums.length
    · obtain ⟨s, hs⟩ : ∃ s, c.sums[i']? = some s := ⟨_, List.getElem?_eq_getElem hlt⟩
      obtain ⟨bx, ox, ex, lx, x0, x1, x2, -, -⟩ := sum_at (HC.out _ hb.out).sums hs
      subst ex
      obtain ⟨wt, hwt⟩ : ∃ W, W = wr.alloc (.cells ([.int .i64 s.amt, .int .i64 s.a, .int .i64 s.b] : List Value).toArray 45) := ⟨_, rfl⟩
      obtain ⟨kt, hkt⟩ : ∃ k, k = wr.heap.size := ⟨_, rfl⟩
      have bt2 : Below wr.heap.size wr wt := by rw [hwt]; exact bel_alloc _ _
      have XT : Box wt kt [.int .i64 s.amt, .int .i64 s.a, .int .i64 s.b] := by rw [hwt, hkt]; exact Box.new _ _ _
      have BT := hid (bel_on hb.out bt2)
      have BF := hid (X.out _ BT.out).2
      have e1 := XT.cell 1 _ rfl
      have e2 := XT.cell 2 _ rfl
      have lt1 := XT.lt
      have HWT := hid hwt
      have HKT := hid hkt
      have HS := hid hs
      clear hwt hkt bt2 XT hs hb
      go_upto_region 8 with fail
      rw [← HWT.out, ← HKT.out]
      clear HWT HKT x0 x1 x2 lx
      obtain ⟨q1, z1⟩ : ∃ q, decide (s.a ≤ a) = q := ⟨_, rfl⟩
      obtain ⟨q2, z2⟩ : ∃ q, decide (a ≤ s.b) = q := ⟨_, rfl⟩
      obtain ⟨q3, z3⟩ : ∃ q, decide (s.a ≤ b) = q := ⟨_, rfl⟩
      obtain ⟨q4, z4⟩ : ∃ q, decide (b ≤ s.b) = q := ⟨_, rfl⟩
      have EA := hid (show onB s.a s.b a = (q1 && q2) by unfold onB; rw [z1, z2])
      have EB := hid (show onB s.a s.b b = (q3 && q4) by unfold onB; rw [z3, z4])
      cases q1 <;> cases q2 <;> cases q3 <;> cases q4 <;>
        first
        | (have NX := hid (show ∀ j s, j < i' + 1 → c.sums[j]? = some s → onB s.a s.b a = onB s.a s.b b from fun j s hj h => by
            rcases Nat.lt_or_ge j i' with k | k
            · exact hA.out j s k h
            · obtain rfl : j = i' := by omega
              rw [HS.out] at h
              obtain rfl := Option.some.inj h
              exact EA.out.trans EB.out.symm)
           go_wp2
           go_roundw
           case rel => exact ⟨i' + 1, by simp, by omega, NX, BT⟩
           case measure => simp [intOf]; omega)
        | (go_wp2
           go_ret
           exact ⟨rfl, BF.out⟩)
    · have hA := hid (show ∀ s ∈ c.sums, onB s.a s.b a = onB s.a s.b b from fun s hs => by
        obtain ⟨j, hj, e⟩ := List.mem_iff_getElem.1 hs
        exact hA.out j s (by omega) (by rw [← e]; exact List.getElem?_eq_getElem hj))
      obtain ⟨wq, hwq⟩ : ∃ W, W = wr := ⟨_, rfl⟩
      have B5 := hid hb.out
      have Y := (X.out _ hb.out).1
      have f5 := Y.cell 5 _ rfl
      have l5 := Y.lt
      clear Y hb
      rw [← hwq] at f5 l5 B5 ⊢
      clear hwq
      go_wp2
      clear f5 l5
      go_loopw [63] (fun i wr => ∃ i' : Nat, i = .int .i64 (i' : Int) ∧ i' ≤ c.parts.length ∧ Hid (∀ j s, j < i' → c.parts[j]? = some s → onB s.a s.b a = onB s.a s.b b) ∧ Hid (Below w1.heap.size w1 wr)) (fun i _ => c.parts.length - (intOf i).toNat)
      case atStart => exact ⟨0, rfl, Nat.zero_le _, hid (fun j s h => absurd h (Nat.not_lt_zero _)), B5⟩
      case round =>
        clear B5
        obtain ⟨i', rfl, hi, hA2, hb⟩ := hrel
        by_cases hlt : i' < c.parts.length
        · obtain ⟨x, hx⟩ : ∃ x, c.parts[i']? = some x := ⟨_, List.getElem?_eq_getElem hlt⟩
          obtain ⟨bx, ox, ta, tc, aa, ac, ex, lx, x0, x1, x2, x3, x4, x5, x6, x7, x8, -⟩ := prt_at (HC.out _ hb.out).parts hx
          subst ex
          obtain ⟨wt, hwt⟩ : ∃ W, W = wr.alloc (.cells ([.int .i64 x.mt, .int .i64 x.a, .int .i64 x.b, .int .i64 x.allowance, .int .i64 x.block, .int .i64 x.kind, .slice ta x.tiers.length tc, .int .i64 x.mode, .slice aa x.adjusts.length ac] : List Value).toArray 25) := ⟨_, rfl⟩
          obtain ⟨kt, hkt⟩ : ∃ k, k = wr.heap.size := ⟨_, rfl⟩
          have bt2 : Below wr.heap.size wr wt := by rw [hwt]; exact bel_alloc _ _
          have XT : Box wt kt [.int .i64 x.mt, .int .i64 x.a, .int .i64 x.b, .int .i64 x.allowance, .int .i64 x.block, .int .i64 x.kind, .slice ta x.tiers.length tc, .int .i64 x.mode, .slice aa x.adjusts.length ac] := by rw [hwt, hkt]; exact Box.new _ _ _
          have BT := hid (bel_on hb.out bt2)
          have BF := hid (X.out _ BT.out).2
          have e1 := XT.cell 1 _ rfl
          have e2 := XT.cell 2 _ rfl
          have lt1 := XT.lt
          have HWT := hid hwt
          have HKT := hid hkt
          have HS := hid hx
          clear hwt hkt bt2 XT hx hb
          go_upto_region 14 with fail
          rw [← HWT.out, ← HKT.out]
          clear HWT HKT x0 x1 x2 x3 x4 x5 x6 x7 x8 lx
          obtain ⟨q1, z1⟩ : ∃ q, decide (x.a ≤ a) = q := ⟨_, rfl⟩
          obtain ⟨q2, z2⟩ : ∃ q, decide (a ≤ x.b) = q := ⟨_, rfl⟩
          obtain ⟨q3, z3⟩ : ∃ q, decide (x.a ≤ b) = q := ⟨_, rfl⟩
          obtain ⟨q4, z4⟩ : ∃ q, decide (b ≤ x.b) = q := ⟨_, rfl⟩
          have EA := hid (show onB x.a x.b a = (q1 && q2) by unfold onB; rw [z1, z2])
          have EB := hid (show onB x.a x.b b = (q3 && q4) by unfold onB; rw [z3, z4])
          cases q1 <;> cases q2 <;> cases q3 <;> cases q4 <;>
            first
            | (have NX := hid (show ∀ j s, j < i' + 1 → c.parts[j]? = some s → onB s.a s.b a = onB s.a s.b b from fun j s hj h => by
                rcases Nat.lt_or_ge j i' with k | k
                · exact hA2.out j s k h
                · obtain rfl : j = i' := by omega
                  rw [HS.out] at h
                  obtain rfl := Option.some.inj h
                  exact EA.out.trans EB.out.symm)
               go_wp2
               go_roundw
               case rel => exact ⟨i' + 1, by simp, by omega, NX, BT⟩
               case measure => simp [intOf]; omega)
            | (go_wp2
               go_ret
               exact ⟨rfl, BF.out⟩)
        · have hA2 := hid (show ∀ s ∈ c.parts, onB s.a s.b a = onB s.a s.b b from fun s hs => by
            obtain ⟨j, hj, e⟩ := List.mem_iff_getElem.1 hs
            exact hA2.out j s (by omega) (by rw [← e]; exact List.getElem?_eq_getElem hj))
          have c1 := fun (W : World) (b : Below w1.heap.size w1 W) => A.price c ma mc sa sc pa pc a bk bo bcap W (HC.out W b) (HB.out W b) ML.out BL.out
          have c2 := fun (W : World) (b' : Below w1.heap.size w1 W) => A.price c ma mc sa sc pa pc b bk bo bcap W (HC.out W b') (HB.out W b') ML.out BL.out
          obtain ⟨p1, z1⟩ : ∃ q, decide (a < c.a) = q := ⟨_, rfl⟩
          obtain ⟨p2, z2⟩ : ∃ q, decide (c.b < a) = q := ⟨_, rfl⟩
          obtain ⟨p3, z3⟩ : ∃ q, decide (b < c.a) = q := ⟨_, rfl⟩
          obtain ⟨p4, z4⟩ : ∃ q, decide (c.b < b) = q := ⟨_, rfl⟩
          obtain ⟨V1, hV1⟩ : ∃ V, V = priceV c a bk := ⟨_, rfl⟩
          obtain ⟨V2, hV2⟩ : ∃ V, V = priceV c b bk := ⟨_, rfl⟩
          rw [← hV1] at c1
          rw [← hV2] at c2
          have o1 : onB c.a c.b a = (!p1 && !p2) := by rw [onB_not, z1, z2]
          have o2 : onB c.a c.b b = (!p3 && !p4) := by rw [onB_not, z3, z4]
          have E1 := hid (show (!p1 && !p2) = false → V1 = (0, 8) from fun h => by rw [hV1]; exact days_out bk HG.out (o1.trans h))
          have E2 := hid (show (!p3 && !p4) = false → V2 = (0, 8) from fun h => by rw [hV2]; exact days_out bk HG.out (o2.trans h))
          have E3 := hid (show (!p1 && !p2) = (!p3 && !p4) → V1 = V2 from fun h => by rw [hV1, hV2]; exact days_pure bk hA.out hA2.out (o1.trans (h.trans o2.symm)))
          have c1 := hid c1
          have c2 := hid c2
          have Y := (X.out _ hb.out).1
          have f0 := Y.cell 0 _ rfl; have f1 := Y.cell 1 _ rfl; have f2 := Y.cell 2 _ rfl; have f3 := Y.cell 3 _ rfl; have f4 := Y.cell 4 _ rfl; have f5 := Y.cell 5 _ rfl
          have l5 := Y.lt
          clear hV1 hV2 o1 o2 Y hA hA2
          go_wp2_with fail
          refine (c1.out _ hb.out).mono ?_
          rintro e w6 ⟨rfl, b6⟩
          have B6 := hid (bel_on hb.out b6)
          have Y := (X.out _ B6.out).1
          have f0 := Y.cell 0 _ rfl; have f1 := Y.cell 1 _ rfl; have f2 := Y.cell 2 _ rfl; have f3 := Y.cell 3 _ rfl; have f4 := Y.cell 4 _ rfl; have f5 := Y.cell 5 _ rfl
          have l6 := Y.lt
          clear c1 b6 Y l5 hb
          go_wp2_with fail
          refine (c2.out _ B6.out).mono ?_
          rintro e w7 ⟨rfl, b7⟩
          have B7 := hid (bel_on B6.out b7)
          have Y := (X.out _ B7.out).1
          have BF := hid (X.out _ B7.out).2
          have f1 := Y.cell 1 _ rfl; have f2 := Y.cell 2 _ rfl
          have l7 := Y.lt
          clear c2 b7 Y l6 f0 f3 f4 f5 B6 B7
          obtain ⟨r1, y1⟩ : ∃ q, (V1.2 == 8) = q := ⟨_, rfl⟩
          cases p1 <;> cases p2 <;> cases p3 <;> cases p4 <;>
            first
            | (have e := E3.out rfl
               subst e
               have y3 : (V1.1 == V1.1) = true := by simp
               have y4 : (V1.2 == V1.2) = true := by simp
               go_wp2
               go_ret
               exact ⟨rfl, BF.out⟩)
            | (have e : r1 = true := by rw [← y1, E1.out rfl]; rfl
               subst e
               go_wp2
               go_ret
               exact ⟨rfl, BF.out⟩)
            | (have y2 : (V2.2 == 8) = true := by rw [E2.out rfl]; rfl
               cases r1 <;>
               (go_wp2
                go_ret
                exact ⟨rfl, BF.out⟩))
end Go.Proofs.Ytjgogpaedaffkaa.L13

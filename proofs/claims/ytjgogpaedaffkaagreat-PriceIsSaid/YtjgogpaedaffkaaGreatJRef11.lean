/- The document's answers for layer 10 (poundageref10): Part. -/
import Derived.Test.YtjgogpaedaffkaaGreatJRef10
import Derived.Test.YtjgogpaedaffkaaGreatJAdjP
import Derived.Test.YtjgogpaedaffkaaGreatJL06d
import Derived.Test.YtjgogpaedaffkaaGreatJRef2
import Derived.Deep.CutBlock
import Derived.Deep.CutRange
import Derived.Deep.DeepCutAuto
namespace Go.Proofs.YtjgogpaedaffkaaGreat.P
end Go.Proofs.YtjgogpaedaffkaaGreat.P
namespace Go.Proofs.YtjgogpaedaffkaaGreat.Mm
end Go.Proofs.YtjgogpaedaffkaaGreat.Mm
namespace Go.Proofs.YtjgogpaedaffkaaGreat.Md
end Go.Proofs.YtjgogpaedaffkaaGreat.Md
namespace Go.Proofs.YtjgogpaedaffkaaGreat.R6
end Go.Proofs.YtjgogpaedaffkaaGreat.R6
namespace Go.Proofs.YtjgogpaedaffkaaGreat.Te
end Go.Proofs.YtjgogpaedaffkaaGreat.Te
namespace Go.Proofs.YtjgogpaedaffkaaGreat.Co
end Go.Proofs.YtjgogpaedaffkaaGreat.Co
namespace Go.Proofs.YtjgogpaedaffkaaGreat.R10
end Go.Proofs.YtjgogpaedaffkaaGreat.R10
namespace Go.Proofs.YtjgogpaedaffkaaGreat.R10
open Go.RowKit Go.Sort P Mm Md R6 Te Co
theorem tiersB_step {l : List Tier} {i : Nat} {t : Tier} {u : Int} (h : l[i]? = some t) (hi : i + 1 < l.length) : tiersB u (l.drop i) = (inB t.rate 0 1000000000000 && inB t.upto (u + 1) 1000000 && tiersB t.upto (l.drop (i + 1))) := by
  obtain ⟨t', h'⟩ : ∃ t', l[i + 1]? = some t' := ⟨_, List.getElem?_eq_getElem hi⟩
  rw [drop_at h, drop_at h']
  rfl
theorem tiersB_last {l : List Tier} {i : Nat} {t : Tier} {u : Int} (h : l[i]? = some t) (hi : i + 1 = l.length) : tiersB u (l.drop i) = (inB t.rate 0 1000000000000 && decide (t.upto = 0)) := by
  rw [drop_at h, List.drop_of_length_le (by omega)]
  rfl
theorem all_drop {α : Type} {q : α → Bool} {l : List α} {i : Nat} {x : α} (h : l[i]? = some x) : (l.drop i).all q = (q x && (l.drop (i + 1)).all q) := by
  rw [drop_at h]
  rfl
theorem partB_eq (c : Cor) (x : Prt) : partB c x = (inB x.mt 0 ((c.meters.length : Int) - 1) && (spanB c.a c.b x.a x.b && (inB x.allowance 0 1000000 && (inB x.block 1 1000000 && (inB x.kind 1 2 && (inB x.mode 0 3 && (inB x.tiers.length 1 8 && (decide (x.adjusts.length ≤ 6) && (tiersB 0 x.tiers && x.adjusts.all adjB))))))))) := by
  unfold partB tierRow
  ac_rfl
/-- What stands ahead of the i-th tier. -/
def Prev (ts : List Tier) (i : Nat) (u : Int) : Prop := (i = 0 ∧ u = 0) ∨ (0 < i ∧ 1 ≤ u ∧ u ≤ 1000000 ∧ ∃ y, ts[i - 1]? = some y ∧ y.upto = u)
theorem tier_in {w : World} {b o len cap : Nat} {xs : List Tier} (h : Row tTier w (some ⟨b, o, none⟩) len cap xs) {j : Nat} {m : Tier} (hj : xs[j]? = some m) :
    w.cell? ⟨b, o + j * 2, none⟩ = some (.int .i64 m.upto) ∧ w.cell? ⟨b, o + j * 2 + 1, none⟩ = some (.int .i64 m.rate) := by
  obtain ⟨b', o', e, _, x0, x1, _⟩ := tier_at h hj
  simp only [Option.some.injEq, Addr.mk.injEq, and_true] at e
  obtain ⟨rfl, rfl⟩ := e
  exact ⟨x0, x1⟩
set_option maxHeartbeats 16000000 in
set_option maxRecDepth 100000 in
theorem part_any (c : Cor) (x : Prt) (ma : Option Addr) (mc : Nat) (sa : Option Addr) (sc : Nat) (pa : Option Addr) (pc : Nat) (ta : Option Addr) (tc : Nat) (aa : Option Addr) (ac : Nat) (w : World) (ht : Row tTier w ta x.tiers.length tc x.tiers) (ha : Row tAdj w aa x.adjusts.length ac x.adjusts) :
    Calls Tryz.prog 44 #[.agg #[.string c.cur, .int .i64 c.a, .int .i64 c.b, .slice ma c.meters.length mc, .slice sa c.sums.length sc, .slice pa c.parts.length pc], .agg #[.int .i64 x.mt, .int .i64 x.a, .int .i64 x.b, .int .i64 x.allowance, .int .i64 x.block, .int .i64 x.kind, .slice ta x.tiers.length tc, .int .i64 x.mode, .slice aa x.adjusts.length ac]] w fun e w' => e = .returned (.bool (partB c x)) ∧ Below w.heap.size w w' := by
  obtain ⟨w1, hw1⟩ : ∃ W, W = (w.alloc (.cells ([.string c.cur, .int .i64 c.a, .int .i64 c.b, .slice ma c.meters.length mc, .slice sa c.sums.length sc, .slice pa c.parts.length pc] : List Value).toArray 26)).alloc (.cells ([.int .i64 x.mt, .int .i64 x.a, .int .i64 x.b, .int .i64 x.allowance, .int .i64 x.block, .int .i64 x.kind, .slice ta x.tiers.length tc, .int .i64 x.mode, .slice aa x.adjusts.length ac] : List Value).toArray 58) := ⟨_, rfl⟩
  obtain ⟨k1, hk1⟩ : ∃ k, k = w.heap.size := ⟨_, rfl⟩
  obtain ⟨k2, hk2⟩ : ∃ k, k = w.heap.size + 1 := ⟨_, rfl⟩
  have b1 : Below w.heap.size w w1 := by rw [hw1]; exact bel_alloc2 ..
  have X2 : Box w1 k2 [.int .i64 x.mt, .int .i64 x.a, .int .i64 x.b, .int .i64 x.allowance, .int .i64 x.block, .int .i64 x.kind, .slice ta x.tiers.length tc, .int .i64 x.mode, .slice aa x.adjusts.length ac] := by
    rw [hw1, hk2]
    have := Box.new (w.alloc (.cells ([.string c.cur, .int .i64 c.a, .int .i64 c.b, .slice ma c.meters.length mc, .slice sa c.sums.length sc, .slice pa c.parts.length pc] : List Value).toArray 26)) [.int .i64 x.mt, .int .i64 x.a, .int .i64 x.b, .int .i64 x.allowance, .int .i64 x.block, .int .i64 x.kind, .slice ta x.tiers.length tc, .int .i64 x.mode, .slice aa x.adjusts.length ac] 58
    simpa using this
  have X1 : Box w1 k1 [.string c.cur, .int .i64 c.a, .int .i64 c.b, .slice ma c.meters.length mc, .slice sa c.sums.length sc, .slice pa c.parts.length pc] := by rw [hw1, hk1]; exact (Box.new w _ 26).on (bel_alloc _ _)
  have X := hid (fun (W : World) (b : Below w1.heap.size w1 W) => (⟨X1.on b, X2.on b, bel_on b1 b⟩ : Box W k1 [.string c.cur, .int .i64 c.a, .int .i64 c.b, .slice ma c.meters.length mc, .slice sa c.sums.length sc, .slice pa c.parts.length pc] ∧ Box W k2 [.int .i64 x.mt, .int .i64 x.a, .int .i64 x.b, .int .i64 x.allowance, .int .i64 x.block, .int .i64 x.kind, .slice ta x.tiers.length tc, .int .i64 x.mode, .slice aa x.adjusts.length ac] ∧ Below w.heap.size w W))
  have HT := hid (fun (W : World) (b : Below w1.heap.size w1 W) => ht.on (bel_on b1 b))
  have HA := hid (fun (W : World) (b : Below w1.heap.size w1 W) => ha.on (bel_on b1 b))
  have tm := ht.hmax
  have tcp := ht.hcap
  have am := ha.hmax
  have acp := ha.hcap
  obtain ⟨R, hR⟩ : ∃ R, R = partB c x := ⟨_, rfl⟩
  rw [← hR]
  have K0 : Hid (R = (inB x.mt 0 ((c.meters.length : Int) - 1) && (spanB c.a c.b x.a x.b && (inB x.allowance 0 1000000 && (inB x.block 1 1000000 && (inB x.kind 1 2 && (inB x.mode 0 3 && (inB x.tiers.length 1 8 && (decide (x.adjusts.length ≤ 6) && (tiersB 0 x.tiers && x.adjusts.all adjB)))))))))) := hid (by rw [hR]; exact partB_eq c x)
  have HW := hid hw1
  have HK1 := hid hk1
  have HK2 := hid hk2
  have d3 := X1.cell 3 _ rfl
  have a0 := X2.cell 0 _ rfl
  clear hw1 X1 b1 hR ht ha hk1 hk2
  go_enter Tryz.func44, Tryz.ntmps44
  go_upto_region 1 with fail
  rw [← HW.out, ← HK2.out, ← HK1.out]
  clear HW HK1 HK2
  simp only [List.append_eq, List.cons_append, List.nil_append]
  have B0 := hid (Below.refl w1.heap.size w1)
  have BF := hid (X.out _ B0.out).2.2
  rcases Bool.eq_false_or_eq_true (inB x.mt 0 ((c.meters.length : Int) - 1)) with g | g
  rotate_left
  · have KF : Hid (R = false) := hid (by rw [K0.out, g]; rfl)
    unfold inB at g
    rw [Bool.and_eq_false_iff, decide_eq_false_iff_not, decide_eq_false_iff_not] at g
    by_cases m0 : x.mt < 0
    · clear g
      go_wp2
      go_ret
      exact rbb KF.out.symm BF.out
    · have m1 : (c.meters.length : Int) ≤ x.mt := by omega
      clear g
      go_wp2
      go_ret
      exact rbb KF.out.symm BF.out
  have K1 : Hid (R = (spanB c.a c.b x.a x.b && (inB x.allowance 0 1000000 && (inB x.block 1 1000000 && (inB x.kind 1 2 && (inB x.mode 0 3 && (inB x.tiers.length 1 8 && (decide (x.adjusts.length ≤ 6) && (tiersB 0 x.tiers && x.adjusts.all adjB))))))))) := hid (by rw [K0.out, g]; rfl)
  unfold inB at g
  rw [Bool.and_eq_true, decide_eq_true_eq, decide_eq_true_eq] at g
  have m0 : ¬ x.mt < 0 := by omega
  have m1 : ¬ (c.meters.length : Int) ≤ x.mt := by omega
  clear g K0
  have d0 := (X.out _ B0.out).1.cell 0 _ rfl; have d1 := (X.out _ B0.out).1.cell 1 _ rfl; have d2 := (X.out _ B0.out).1.cell 2 _ rfl; have d4 := (X.out _ B0.out).1.cell 4 _ rfl; have d5 := (X.out _ B0.out).1.cell 5 _ rfl
  have a1 := (X.out _ B0.out).2.1.cell 1 _ rfl; have a2 := (X.out _ B0.out).2.1.cell 2 _ rfl
  have cS := hid (span_any c x.a x.b ma mc sa sc pa pc w1)
  go_wp2_with fail
  refine cS.out.mono ?_
  rintro e w2 ⟨rfl, b2⟩
  have B2 := hid (bel_on B0.out b2)
  clear b2 cS d0 d1 d2 d3 d4 d5 a0 a1 a2 BF B0 m0 m1
  have Y := X.out w2 B2.out
  have a0 := Y.2.1.cell 0 _ rfl; have a1 := Y.2.1.cell 1 _ rfl; have a2 := Y.2.1.cell 2 _ rfl; have a3 := Y.2.1.cell 3 _ rfl; have a4 := Y.2.1.cell 4 _ rfl; have a5 := Y.2.1.cell 5 _ rfl; have a6 := Y.2.1.cell 6 _ rfl; have a7 := Y.2.1.cell 7 _ rfl; have a8 := Y.2.1.cell 8 _ rfl
  have BF := hid Y.2.2
  clear Y
  rcases Bool.eq_false_or_eq_true (spanB c.a c.b x.a x.b) with g | g
  rotate_left
  · have KF : Hid (R = false) := hid (by rw [K1.out, g]; rfl)
    rw [g]
    clear g
    go_wp2
    go_ret
    exact rbb KF.out.symm BF.out
  have K2 : Hid (R = (inB x.allowance 0 1000000 && (inB x.block 1 1000000 && (inB x.kind 1 2 && (inB x.mode 0 3 && (inB x.tiers.length 1 8 && (decide (x.adjusts.length ≤ 6) && (tiersB 0 x.tiers && x.adjusts.all adjB)))))))) := hid (by rw [K1.out, g]; rfl)
  rw [g]
  clear g K1
  have cS := hid (in_any x.allowance 0 1000000 w2)
  go_wp2_with fail
  refine cS.out.mono ?_
  rintro e w' ⟨rfl, rfl⟩
  clear cS
  rcases Bool.eq_false_or_eq_true (inB x.allowance 0 1000000) with g | g
  rotate_left
  · have KF : Hid (R = false) := hid (by rw [K2.out, g]; rfl)
    rw [g]
    clear g
    go_wp2
    go_ret
    exact rbb KF.out.symm BF.out
  have K3 : Hid (R = (inB x.block 1 1000000 && (inB x.kind 1 2 && (inB x.mode 0 3 && (inB x.tiers.length 1 8 && (decide (x.adjusts.length ≤ 6) && (tiersB 0 x.tiers && x.adjusts.all adjB))))))) := hid (by rw [K2.out, g]; rfl)
  rw [g]
  clear g K2
  have cS := hid (in_any x.block 1 1000000 w2)
  go_wp2_with fail
  refine cS.out.mono ?_
  rintro e w' ⟨rfl, rfl⟩
  clear cS
  rcases Bool.eq_false_or_eq_true (inB x.block 1 1000000) with g | g
  rotate_left
  · have KF : Hid (R = false) := hid (by rw [K3.out, g]; rfl)
    rw [g]
    clear g
    go_wp2
    go_ret
    exact rbb KF.out.symm BF.out
  have K4 : Hid (R = (inB x.kind 1 2 && (inB x.mode 0 3 && (inB x.tiers.length 1 8 && (decide (x.adjusts.length ≤ 6) && (tiersB 0 x.tiers && x.adjusts.all adjB)))))) := hid (by rw [K3.out, g]; rfl)
  rw [g]
  clear g K3
  rcases Bool.eq_false_or_eq_true (inB x.kind 1 2) with g | g
  rotate_left
  · have KF : Hid (R = false) := hid (by rw [K4.out, g]; rfl)
    unfold inB at g
    rw [Bool.and_eq_false_iff, decide_eq_false_iff_not, decide_eq_false_iff_not] at g
    have q1 : (x.kind != 1) = true := by simp; omega
    have q2 : (x.kind != 2) = true := by simp; omega
    clear g
    go_wp2
    go_ret
    exact rbb KF.out.symm BF.out
  have K5 : Hid (R = (inB x.mode 0 3 && (inB x.tiers.length 1 8 && (decide (x.adjusts.length ≤ 6) && (tiersB 0 x.tiers && x.adjusts.all adjB))))) := hid (by rw [K4.out, g]; rfl)
  unfold inB at g
  rw [Bool.and_eq_true, decide_eq_true_eq, decide_eq_true_eq] at g
  have KK : Hid (x.kind = 1 ∨ x.kind = 2) := hid (by omega)
  clear g K4
  have GK : Hid (((x.kind != 1) = true ∧ (x.kind != 2) = false) ∨ (x.kind != 1) = false) := hid (by
    rcases KK.out with h | h <;> rw [h]
    · exact .inr rfl
    · exact .inl ⟨rfl, rfl⟩)
  clear KK
  rcases GK.out with ⟨q1, q2⟩ | q1
  all_goals
    clear GK
    have cS := hid (in_any x.mode 0 3 w2)
    go_wp2_with fail
    refine cS.out.mono ?_
    rintro e w' ⟨rfl, rfl⟩
    clear cS
    rcases Bool.eq_false_or_eq_true (inB x.mode 0 3) with g | g
    rotate_left
    · have KF : Hid (R = false) := hid (by rw [K5.out, g]; rfl)
      rw [g]
      clear g
      go_wp2
      go_ret
      exact rbb KF.out.symm BF.out
    have K6 : Hid (R = (inB x.tiers.length 1 8 && (decide (x.adjusts.length ≤ 6) && (tiersB 0 x.tiers && x.adjusts.all adjB)))) := hid (by rw [K5.out, g]; rfl)
    rw [g]
    clear g K5
    rcases Bool.eq_false_or_eq_true (inB x.tiers.length 1 8) with g | g
    rotate_left
    · have KF : Hid (R = false) := hid (by rw [K6.out, g]; rfl)
      unfold inB at g
      rw [Bool.and_eq_false_iff, decide_eq_false_iff_not, decide_eq_false_iff_not] at g
      by_cases t0 : (x.tiers.length : Int) < 1
      · clear g
        go_wp2
        go_ret
        exact rbb KF.out.symm BF.out
      · have t1 : (8 : Int) < x.tiers.length := by omega
        clear g
        go_wp2
        go_ret
        exact rbb KF.out.symm BF.out
    have K7 : Hid (R = (decide (x.adjusts.length ≤ 6) && (tiersB 0 x.tiers && x.adjusts.all adjB))) := hid (by rw [K6.out, g]; rfl)
    unfold inB at g
    rw [Bool.and_eq_true, decide_eq_true_eq, decide_eq_true_eq] at g
    obtain ⟨t1, t8⟩ := g
    clear K6
    by_cases h6 : 6 < (x.adjusts.length : Int)
    · have KF : Hid (R = false) := hid (by rw [K7.out, decide_eq_false (by omega)]; rfl)
      go_wp2
      go_ret
      exact rbb KF.out.symm BF.out
    have K8 : Hid (R = (tiersB 0 (x.tiers.drop 0) && x.adjusts.all adjB)) := hid (by rw [K7.out, decide_eq_true (by omega)]; rfl)
    clear K7
    obtain ⟨z, hz⟩ : ∃ z, x.tiers[0]? = some z := ⟨_, List.getElem?_eq_getElem (by omega)⟩
    obtain ⟨bt, ot, et, _⟩ := tier_at (HT.out _ B2.out) hz
    subst et
    obtain ⟨n, hn⟩ : ∃ n, n = x.tiers.length := ⟨_, rfl⟩
    have HN := hid hn
    clear hz
    have wn : IntKind.i64.wrap ((x.tiers.length : Int) - 1) = (x.tiers.length : Int) - 1 := wrap_i (by unfold I64; omega)
    go_upto_region 3 with fail
    clear a0 a1 a2 a3 a4 a5 a7 a8 hn HN
    go_wp2
    go_loopw [80] (fun i wr => ∃ (i' : Nat) (u : Int), i = .int .i64 (i' : Int) ∧ i' ≤ x.tiers.length ∧ Hid (i' < x.tiers.length → Prev x.tiers i' u) ∧ Hid (R = (tiersB u (x.tiers.drop i') && x.adjusts.all adjB)) ∧ Hid (Below w1.heap.size w1 wr)) (fun i _ => x.tiers.length - (intOf i).toNat)
    case atStart => exact ⟨0, 0, rfl, Nat.zero_le _, hid (fun _ => .inl ⟨rfl, rfl⟩), K8, B2⟩
    case round =>
      obtain ⟨i', u, rfl, hi, hP, hR, hb⟩ := hrel
      clear K8 B2 BF a6
      by_cases hlt : i' < x.tiers.length
      · obtain ⟨y, hy⟩ : ∃ y, x.tiers[i']? = some y := ⟨_, List.getElem?_eq_getElem hlt⟩
        have HY := hid hy
        obtain ⟨y0, y1⟩ := tier_in (HT.out _ hb.out) hy
        obtain ⟨wt, hwt⟩ : ∃ W, W = wr.alloc (.cells ([.int .i64 y.upto, .int .i64 y.rate] : List Value).toArray 54) := ⟨_, rfl⟩
        obtain ⟨kt, hkt⟩ : ∃ k, k = wr.heap.size := ⟨_, rfl⟩
        have bt2 : Below wr.heap.size wr wt := by rw [hwt]; exact bel_alloc _ _
        have XT : Box wt kt [.int .i64 y.upto, .int .i64 y.rate] := by rw [hwt, hkt]; exact Box.new _ _ _
        have BT := hid (bel_on hb.out bt2)
        have HXT := hid XT
        have HWT := hid hwt
        have HKT := hid hkt
        have BFT := hid (X.out wt BT.out).2.2
        have a6 := (X.out wr hb.out).2.1.cell 6 _ rfl
        clear hwt hkt bt2 XT hy hb
        go_upto_region 7 with fail
        rw [← HWT.out, ← HKT.out]
        clear HWT HKT y0 y1 a6
        have a6 := (X.out wt BT.out).2.1.cell 6 _ rfl
        go_cut [96] (fun v W => v = .bool (decide ((0 : Int) < (i' : Int))) ∧ W = wt)
        case first =>
          rcases hP.out hlt with ⟨rfl, rfl⟩ | ⟨p0, p1, p2, z, hz, rfl⟩
          · go_wp2
            go_meet
            exact ⟨rfl, rfl⟩
          · obtain ⟨z0, _⟩ := tier_in (HT.out _ BT.out) hz
            have w5 : IntKind.i64.wrap ((i' : Int) - 1) = (i' : Int) - 1 := wrap_i (by unfold I64; omega)
            have q0 : (0 : Int) < i' := by omega
            have q1 : 0 ≤ (i' : Int) - 1 := by omega
            have q2 : (i' : Int) - 1 < x.tiers.length := by omega
            clear hz
            go_wp2
            go_meet
            exact ⟨by simp; omega, rfl⟩
        case rest =>
          obtain ⟨rfl, rfl⟩ := hcut
          go_upto_if 96 with fail
          go_cut [7] (fun v W => v = .int .i64 (u + 1) ∧ W = wc)
          case first =>
            rcases hP.out hlt with ⟨rfl, rfl⟩ | ⟨p0, p1, p2, z, hz, rfl⟩
            · go_wp2
              go_meet
              exact ⟨rfl, rfl⟩
            · obtain ⟨z0, _⟩ := tier_in (HT.out _ BT.out) hz
              have w5 : IntKind.i64.wrap ((i' : Int) - 1) = (i' : Int) - 1 := wrap_i (by unfold I64; omega)
              have w6 : IntKind.i64.wrap (z.upto + 1) = z.upto + 1 := wrap_i (by unfold I64; omega)
              have q0 : (0 : Int) < i' := by omega
              have q1 : 0 ≤ (i' : Int) - 1 := by omega
              have q2 : (i' : Int) - 1 < x.tiers.length := by omega
              clear hz
              go_wp2
              go_meet
              exact ⟨by rw [Int.min_eq_left p2], rfl⟩
          case rest =>
            obtain ⟨rfl, rfl⟩ := hcut
            have e0 := HXT.out.cell 0 _ rfl; have e1 := HXT.out.cell 1 _ rfl
            by_cases hl : i' + 1 = x.tiers.length
            · have gl : ((i' : Int) == (x.tiers.length : Int) - 1) = true := by simp; omega
              have K9 : Hid (R = ((inB y.rate 0 1000000000000 && decide (y.upto = 0)) && x.adjusts.all adjB)) := hid (by rw [hR.out, tiersB_last HY.out hl])
              have cS := hid (in_any y.rate 0 1000000000000 wc)
              clear hP hR HT
              go_wp2_with fail
              refine cS.out.mono ?_
              rintro e w' ⟨rfl, rfl⟩
              clear cS
              rcases Bool.eq_false_or_eq_true (inB y.rate 0 1000000000000) with g | g
              rotate_left
              · have KF : Hid (R = false) := hid (by rw [K9.out, g]; rfl)
                rw [g]
                clear g
                go_wp2
                go_ret
                exact rbb KF.out.symm BFT.out
              have K10 : Hid (R = (decide (y.upto = 0) && x.adjusts.all adjB)) := hid (by rw [K9.out, g]; rfl)
              rw [g]
              clear g K9
              have cS := hid (in_any y.upto 0 0 wc)
              go_wp2_with fail
              refine cS.out.mono ?_
              rintro e w' ⟨rfl, rfl⟩
              clear cS
              by_cases h0 : y.upto = 0
              · have g : inB y.upto 0 0 = true := by rw [h0]; rfl
                have K11 : Hid (R = (tiersB 0 (x.tiers.drop (i' + 1)) && x.adjusts.all adjB)) := hid (by rw [K10.out, decide_eq_true h0, List.drop_of_length_le (by omega)]; rfl)
                rw [g]
                clear g h0 e0 e1
                go_wp2
                go_roundw
                case rel => exact ⟨i' + 1, 0, by simp, by omega, hid (fun h => absurd h (by omega)), K11, BT⟩
                case measure => simp [intOf]; omega
              · have g : inB y.upto 0 0 = false := by unfold inB; simp; omega
                have KF : Hid (R = false) := hid (by rw [K10.out, decide_eq_false h0]; rfl)
                rw [g]
                clear g h0 e0 e1
                go_wp2
                go_ret
                exact rbb KF.out.symm BFT.out
            · have gl : ((i' : Int) == (x.tiers.length : Int) - 1) = false := by simp; omega
              have K9 : Hid (R = ((inB y.rate 0 1000000000000 && inB y.upto (u + 1) 1000000 && tiersB y.upto (x.tiers.drop (i' + 1))) && x.adjusts.all adjB)) := hid (by rw [hR.out, tiersB_step HY.out (by omega)])
              have U0 : 0 ≤ u := by rcases hP.out hlt with ⟨_, h⟩ | ⟨_, h, _⟩ <;> omega
              have cS := hid (in_any y.rate 0 1000000000000 wc)
              clear hP hR HT
              go_wp2_with fail
              refine cS.out.mono ?_
              rintro e w' ⟨rfl, rfl⟩
              clear cS
              rcases Bool.eq_false_or_eq_true (inB y.rate 0 1000000000000) with g | g
              rotate_left
              · have KF : Hid (R = false) := hid (by rw [K9.out, g]; rfl)
                rw [g]
                clear g
                go_wp2
                go_ret
                exact rbb KF.out.symm BFT.out
              have K10 : Hid (R = ((inB y.upto (u + 1) 1000000 && tiersB y.upto (x.tiers.drop (i' + 1))) && x.adjusts.all adjB)) := hid (by rw [K9.out, g]; rfl)
              rw [g]
              clear g K9
              have cS := hid (in_any y.upto (u + 1) 1000000 wc)
              go_wp2_with fail
              refine cS.out.mono ?_
              rintro e w' ⟨rfl, rfl⟩
              clear cS
              rcases Bool.eq_false_or_eq_true (inB y.upto (u + 1) 1000000) with g | g
              rotate_left
              · have KF : Hid (R = false) := hid (by rw [K10.out, g]; rfl)
                rw [g]
                clear g e0 e1
                go_wp2
                go_ret
                exact rbb KF.out.symm BFT.out
              have K11 : Hid (R = (tiersB y.upto (x.tiers.drop (i' + 1)) && x.adjusts.all adjB)) := hid (by rw [K10.out, g]; rfl)
              have PV := hid (show i' + 1 < x.tiers.length → Prev x.tiers (i' + 1) y.upto from fun _ => by
                unfold inB at g
                rw [Bool.and_eq_true, decide_eq_true_eq, decide_eq_true_eq] at g
                exact .inr ⟨Nat.succ_pos _, by omega, by omega, y, by rw [Nat.add_sub_cancel]; exact HY.out, rfl⟩)
              rw [g]
              clear g e0 e1
              go_wp2
              go_roundw
              case rel => exact ⟨i' + 1, y.upto, by simp, by omega, PV, K11, BT⟩
              case measure => simp [intOf]; omega
      · obtain rfl : i' = x.tiers.length := by omega
        have K9 : Hid (R = (x.adjusts.drop 0).all adjB) := hid (by rw [hR.out, List.drop_length]; rfl)
        have a8 := (X.out wr hb.out).2.1.cell 8 _ rfl
        obtain ⟨wq, hwq⟩ : ∃ W, W = wr := ⟨_, rfl⟩
        rw [← hwq] at hb a8 ⊢
        have B9 := hb
        clear hwq hb hR hP hlt hi HT wn
        go_wp2
        clear a8
        go_loopw [128] (fun i wr => ∃ i' : Nat, i = .int .i64 (i' : Int) ∧ i' ≤ x.adjusts.length ∧ Hid (R = (x.adjusts.drop i').all adjB) ∧ Hid (Below w1.heap.size w1 wr)) (fun i _ => x.adjusts.length - (intOf i).toNat)
        case atStart => exact ⟨0, rfl, Nat.zero_le _, K9, B9⟩
        case round =>
          obtain ⟨i', rfl, hi, hR, hb⟩ := hrel
          clear K9 B9
          by_cases hlt : i' < x.adjusts.length
          rotate_left
          · obtain rfl : i' = x.adjusts.length := by omega
            have KT : Hid (R = true) := hid (by rw [hR.out, List.drop_length]; rfl)
            have BFT := hid (X.out wr hb.out).2.2
            go_wp2
            go_ret
            exact rbb KT.out.symm BFT.out
          obtain ⟨⟨k, m, o⟩, hy⟩ : ∃ y, x.adjusts[i']? = some y := ⟨_, List.getElem?_eq_getElem hlt⟩
          have K0 : Hid (R = (adjB ⟨k, m, o⟩ && (x.adjusts.drop (i' + 1)).all adjB)) := hid (by rw [hR.out, all_drop hy])
          obtain ⟨ba, oa, e, lba, y0, y1, y2, _⟩ := adj_at (HA.out _ hb.out) hy
          subst e
          simp only at y0 y1 y2
          obtain ⟨wt, hwt⟩ : ∃ W, W = wr.alloc (.cells ([.int .i64 k, .int .i64 m, .int .i64 o] : List Value).toArray 115) := ⟨_, rfl⟩
          obtain ⟨kt, hkt⟩ : ∃ k, k = wr.heap.size := ⟨_, rfl⟩
          have bt2 : Below wr.heap.size wr wt := by rw [hwt]; exact bel_alloc _ _
          have XT : Box wt kt [.int .i64 k, .int .i64 m, .int .i64 o] := by rw [hwt, hkt]; exact Box.new _ _ _
          have BT := hid (bel_on hb.out bt2)
          have BFT := hid (X.out wt BT.out).2.2
          have HWT := hid hwt
          have HKT := hid hkt
          have HXT := hid XT
          clear hwt hkt bt2 XT hy hb hR
          go_upto_region 17 with fail
          rw [← HWT.out, ← HKT.out]
          clear HWT HKT y0 y1 y2 lba
          have e0 := HXT.out.cell 0 _ rfl; have e1 := HXT.out.cell 1 _ rfl; have e2 := HXT.out.cell 2 _ rfl
          by_cases c1 : k = 1
          · subst c1
            have K1 : Hid (R = ((inB m 0 100000000 && inB o 0 3) && (x.adjusts.drop (i' + 1)).all adjB)) := hid (by rw [K0.out]; unfold adjB; rw [if_pos rfl])
            have cS := hid (in_any m 0 100000000 wt)
            go_wp2_with fail
            refine cS.out.mono ?_
            rintro e w' ⟨rfl, rfl⟩
            clear cS
            rcases Bool.eq_false_or_eq_true (inB m 0 100000000) with g | g
            rotate_left
            · have KF : Hid (R = false) := hid (by rw [K1.out, g]; rfl)
              rw [g]
              clear g
              go_wp2
              go_ret
              exact rbb KF.out.symm BFT.out
            have K2 : Hid (R = (inB o 0 3 && (x.adjusts.drop (i' + 1)).all adjB)) := hid (by rw [K1.out, g]; rfl)
            rw [g]
            clear g K1
            have cS := hid (in_any o 0 3 wt)
            go_wp2_with fail
            refine cS.out.mono ?_
            rintro e w' ⟨rfl, rfl⟩
            clear cS
            rcases Bool.eq_false_or_eq_true (inB o 0 3) with g | g
            rotate_left
            · have KF : Hid (R = false) := hid (by rw [K2.out, g]; rfl)
              rw [g]
              clear g
              go_wp2
              go_ret
              exact rbb KF.out.symm BFT.out
            have K3 : Hid (R = (x.adjusts.drop (i' + 1)).all adjB) := hid (by rw [K2.out, g]; rfl)
            rw [g]
            clear g K2 K0 e0 e1 e2
            go_wp2
            go_roundw
            case rel => exact ⟨i' + 1, by simp, by omega, K3, BT⟩
            case measure => simp [intOf]; omega
          · by_cases c2 : k = 2 ∨ k = 3 ∨ k = 4
            · have K1 : Hid (R = ((inB m 0 1000000000000 && decide (o = 0)) && (x.adjusts.drop (i' + 1)).all adjB)) := hid (by rw [K0.out]; unfold adjB; rw [if_neg c1, if_pos c2])
              clear K0
              have cS := hid (in_any m 0 1000000000000 wt)
              rcases Bool.eq_false_or_eq_true (inB m 0 1000000000000) with g | g
              · have K2 : Hid (R = (decide (o = 0) && (x.adjusts.drop (i' + 1)).all adjB)) := hid (by rw [K1.out, g]; rfl)
                rw [g] at cS
                clear g K1
                by_cases c3 : o = 0
                · have K3 : Hid (R = (x.adjusts.drop (i' + 1)).all adjB) := hid (by rw [K2.out, decide_eq_true c3]; rfl)
                  have g3 : (o != 0) = false := by simpa using c3
                  clear K2 c3
                  rcases c2 with rfl | rfl | rfl
                  all_goals
                    go_wp2_with fail
                    refine cS.out.mono ?_
                    rintro e w' ⟨rfl, rfl⟩
                    clear cS
                    go_wp2
                    go_roundw
                    case rel => exact ⟨i' + 1, by simp, by omega, K3, BT⟩
                    case measure => simp [intOf]; omega
                · have KF : Hid (R = false) := hid (by rw [K2.out, decide_eq_false c3]; rfl)
                  have g3 : (o != 0) = true := by simpa using c3
                  clear K2 c3
                  rcases c2 with rfl | rfl | rfl
                  all_goals
                    go_wp2_with fail
                    refine cS.out.mono ?_
                    rintro e w' ⟨rfl, rfl⟩
                    clear cS
                    go_wp2
                    go_ret
                    exact rbb KF.out.symm BFT.out
              · have KF : Hid (R = false) := hid (by rw [K1.out, g]; rfl)
                rw [g] at cS
                clear g K1
                rcases c2 with rfl | rfl | rfl
                all_goals
                  go_wp2_with fail
                  refine cS.out.mono ?_
                  rintro e w' ⟨rfl, rfl⟩
                  clear cS
                  go_wp2
                  go_ret
                  exact rbb KF.out.symm BFT.out
            · have KF : Hid (R = false) := hid (by rw [K0.out]; unfold adjB; rw [if_neg c1, if_neg c2]; rfl)
              have n1 : (k == 1) = false := by simpa using c1
              have n2 : (k == 2) = false := by simp; omega
              have n3 : (k == 3) = false := by simp; omega
              have n4 : (k == 4) = false := by simp; omega
              clear K0 c1 c2
              go_wp2
              go_ret
              exact rbb KF.out.symm BFT.out
end Go.Proofs.YtjgogpaedaffkaaGreat.R10
/- The document's answers for layer 11 (poundageref11): Left, Steps. -/
namespace Go.Proofs.YtjgogpaedaffkaaGreat.R11
open Go.RowKit Go.Sort P Mm Md R6 Te Co R10
def stC (s : Stp) : List Value := [.int .i64 s.a, .int .i64 s.b, .int .i64 s.r]
def tStp : Ty Stp := leaf 3 stC (fun s => I64 s.a ∧ I64 s.b ∧ I64 s.r) (fun _ => rfl)
def oV (o : Option Int) : Int := o.getD 0
def oB (o : Option Int) : Bool := o.isSome
theorem rnd_up {n b : Int} (hb : 0 < b) : rnd n b 1 = (n + b - 1) / b := by
  have e := Int.emod_add_mul_ediv n b
  have l0 := Int.emod_nonneg n (show b ≠ 0 by omega)
  have l1 := Int.emod_lt_of_pos n hb
  unfold rnd
  rw [rup1]
  obtain ⟨Q, hQ⟩ : ∃ Q, Q = n / b := ⟨_, rfl⟩
  obtain ⟨R, hR⟩ : ∃ R, R = n % b := ⟨_, rfl⟩
  rw [← hQ, ← hR] at e
  rw [← hR] at l0 l1
  rw [← hQ, ← hR]
  by_cases k : 0 < R
  · rw [if_pos (decide_eq_true k), show n + b - 1 = (R - 1) + (Q + 1) * b by rw [Int.add_mul, Int.mul_comm Q b]; omega, Int.add_mul_ediv_right _ _ (by omega), Int.ediv_eq_zero_of_lt (by omega) (by omega)]
    omega
  · rw [if_neg (by simpa using k), show n + b - 1 = (b - 1) + Q * b by rw [Int.mul_comm Q b]; omega, Int.add_mul_ediv_right _ _ (by omega), Int.ediv_eq_zero_of_lt (by omega) (by omega)]
    omega
theorem up_in {n b : Int} (h0 : 0 ≤ n) (h1 : n ≤ 9223372036854775807) (hb : 1 ≤ b) : 0 ≤ (n + b - 1) / b ∧ (n + b - 1) / b ≤ n := by
  refine ⟨Int.ediv_nonneg (by omega) (by omega), ?_⟩
  rcases Int.lt_or_le 0 n with k | k
  · refine Int.le_of_lt_add_one (Int.ediv_lt_of_lt_mul (by omega) ?_)
    have : n * 1 ≤ n * b := Int.mul_le_mul_of_nonneg_left hb h0
    rw [Int.add_mul]
    omega
  · rw [show n = 0 by omega, Int.ediv_eq_zero_of_lt (by omega) (by omega)]
    omega
set_option maxHeartbeats 4000000 in
set_option maxRecDepth 100000 in
theorem left_any (x : Prt) (ta : Option Addr) (tc : Nat) (aa : Option Addr) (ac : Nat) (q : Int) (w : World) (hq : I64 q) (g : GoodT x) :
    Calls Tryz.prog 117 #[.agg #[.int .i64 x.mt, .int .i64 x.a, .int .i64 x.b, .int .i64 x.allowance, .int .i64 x.block, .int .i64 x.kind, .slice ta x.tiers.length tc, .int .i64 x.mode, .slice aa x.adjusts.length ac], .int .i64 q] w fun e w' => e = .returned (.tuple #[.int .i64 (oV (lqO x q)), .bool (oB (lqO x q))]) ∧ Below w.heap.size w w' := by
  obtain ⟨w1, hw1⟩ : ∃ W, W = w.alloc (.cells ([.int .i64 x.mt, .int .i64 x.a, .int .i64 x.b, .int .i64 x.allowance, .int .i64 x.block, .int .i64 x.kind, .slice ta x.tiers.length tc, .int .i64 x.mode, .slice aa x.adjusts.length ac] : List Value).toArray 58) := ⟨_, rfl⟩
  obtain ⟨k1, hk1⟩ : ∃ k, k = w.heap.size := ⟨_, rfl⟩
  have b1 : Below w.heap.size w w1 := by rw [hw1]; exact bel_alloc _ _
  have X1 : Box w1 k1 [.int .i64 x.mt, .int .i64 x.a, .int .i64 x.b, .int .i64 x.allowance, .int .i64 x.block, .int .i64 x.kind, .slice ta x.tiers.length tc, .int .i64 x.mode, .slice aa x.adjusts.length ac] := by rw [hw1, hk1]; exact Box.new w _ 58
  have c3 := X1.cell 3 _ rfl
  have c4 := X1.cell 4 _ rfl
  have l1 := X1.lt
  have HX := hid X1
  have HB1 := hid b1
  have HW := hid hw1
  have HK := hid hk1
  obtain ⟨g0, g1⟩ := g.allow
  obtain ⟨g2, g3⟩ := g.block
  have q1 : q ≤ 9223372036854775807 := hq.2
  obtain ⟨V, hV⟩ : ∃ V, V = oV (lqO x q) := ⟨_, rfl⟩
  obtain ⟨O, hO⟩ : ∃ O, O = oB (lqO x q) := ⟨_, rfl⟩
  rw [← hV, ← hO]
  have EV := hid hV
  have EO := hid hO
  have EL : lq x q = (max 0 (q - x.allowance) + x.block - 1) / x.block * x.block := rfl
  have EL := hid EL
  clear hw1 hk1 X1 b1 hV hO hq g
  by_cases h0 : q < 0
  · have HV : Hid (V = 0) := hid (by rw [EV.out]; unfold lqO lqOk; rw [decide_eq_false (by omega)]; rfl)
    have HO : Hid (O = false) := hid (by rw [EO.out]; unfold lqO lqOk; rw [decide_eq_false (by omega)]; rfl)
    clear EV EO
    go_enter Tryz.func117, Tryz.ntmps117
    go_upto_region 1 with fail
    rw [← HW.out, ← HK.out]
    go_wp2
    go_ret2
    exact ⟨Ex.ret_2 HV.out.symm HO.out.symm, HB1.out⟩
  · have h1 : 0 ≤ q := by omega
    obtain ⟨N, hN⟩ : ∃ N, N = max (q - x.allowance) 0 := ⟨_, rfl⟩
    have n0 : 0 ≤ N := by omega
    have n1 : N ≤ 9223372036854775807 := by omega
    obtain ⟨k, hk⟩ : ∃ k, k = (N + x.block - 1) / x.block := ⟨_, rfl⟩
    have kk := up_in n0 n1 g2
    rw [← hk] at kk
    have EL2 : Hid (lq x q = k * x.block) := hid (by rw [EL.out, hk, hN, Int.max_comm])
    have HV : Hid (V = cut64 (k * x.block)) := hid (by rw [EV.out]; unfold lqO lqOk; rw [decide_eq_true h1, Bool.true_and, EL2.out]; unfold cut64; split <;> rfl)
    have HO : Hid (O = ok64 (k * x.block)) := hid (by rw [EO.out]; unfold lqO lqOk; rw [decide_eq_true h1, Bool.true_and, EL2.out]; split <;> simp_all [oB])
    have cM := hid (fun (W : World) => show Calls Tryz.prog 57 #[.int .i64 (max (q - x.allowance) 0), .int .i64 1, .int .i64 x.block, .int .i64 1] W fun e w' => e = .returned (.tuple #[.int .i64 k, .bool true]) ∧ Below W.heap.size W w' by
      have m := R2.muldiv_any N 1 x.block 1 W (by unfold I64; omega) (by unfold I64; omega) (by unfold I64; omega)
      rw [Int.mul_one, mdn_good (by omega) (by decide), mdb_good (by omega) (by decide), rnd_up (by omega), ← hk, cut64_t (by unfold I64; omega), ok64_t (by unfold I64; omega), hN] at m
      exact m)
    have cU := hid (fun (W : World) => R1.mul_any k x.block W (by unfold I64; omega) (by unfold I64; omega))
    have cI := hid (fun (W : World) => R1.int_any (k * x.block) W)
    clear EV EO EL EL2 hN hk h0
    go_enter Tryz.func117, Tryz.ntmps117
    go_upto_region 1 with fail
    rw [← HW.out, ← HK.out]
    go_wp2_with fail
    refine (cM.out _).mono ?_
    rintro e w2 ⟨rfl, b2⟩
    have c4 := (HX.out.on b2).cell 4 _ rfl
    have l1 := (HX.out.on b2).lt
    have B2 := hid (bel_on HB1.out b2)
    clear b2
    go_wp2_with fail
    refine (cU.out _).mono ?_
    rintro e w3 ⟨rfl, b3⟩
    have B3 := hid (bel_on B2.out b3)
    clear b3
    go_wp2_with fail
    refine (cI.out _).mono ?_
    rintro e w4 ⟨rfl, b4⟩
    have B4 := hid (bel_on B3.out b4)
    clear b4
    go_wp2
    go_ret2
    exact ⟨Ex.ret_2 HV.out.symm HO.out.symm, B4.out⟩
theorem volR_last {q : Int} {l : List Tier} {i : Nat} {t : Tier} (h : l[i]? = some t) (hi : i + 1 = l.length) : volR q (l.drop i) = t.rate := by
  rw [drop_at h, List.drop_of_length_le (by omega)]
  rfl
theorem volR_step {q : Int} {l : List Tier} {i : Nat} {t : Tier} (h : l[i]? = some t) (hi : i + 1 < l.length) : volR q (l.drop i) = if q ≤ t.upto then t.rate else volR q (l.drop (i + 1)) := by
  obtain ⟨t', h'⟩ : ∃ t', l[i + 1]? = some t' := ⟨_, List.getElem?_eq_getElem hi⟩
  rw [drop_at h, drop_at h']
  rfl
theorem gradS_last {q u : Int} {l : List Tier} {i : Nat} {t : Tier} (h : l[i]? = some t) (hi : i + 1 = l.length) : gradS q u (l.drop i) = if u < q then [⟨u, q, t.rate⟩] else [] := by
  rw [drop_at h, List.drop_of_length_le (by omega)]
  rfl
theorem gradS_step {q u : Int} {l : List Tier} {i : Nat} {t : Tier} (h : l[i]? = some t) (hi : i + 1 < l.length) : gradS q u (l.drop i) = (if u < min q t.upto then [⟨u, min q t.upto, t.rate⟩] else []) ++ gradS q t.upto (l.drop (i + 1)) := by
  obtain ⟨t', h'⟩ : ∃ t', l[i + 1]? = some t' := ⟨_, List.getElem?_eq_getElem hi⟩
  rw [drop_at h, drop_at h']
  rfl
theorem news_at (w : World) (cs : List Value) (t : TypeId) : ∀ j u, cs[j]? = some u → (w.alloc (.cells cs.toArray t)).cell? ((⟨w.heap.size, 0, none⟩ : Addr).add j) = some u := fun j u h => by
  rw [Mm.add_plain, Nat.zero_add]
  exact (Box.new w cs t).cell j u h
theorem info_step : (Tryz.prog.info? 158).map (fun i => (i.zero, i.size, i.bytes)) = some (some (.agg #[.int .i64 0, .int .i64 0, .int .i64 0]), 3, 24) := by kernel_rfl
theorem steps_row {x : Prt} (g : GoodT x) {q : Int} (hq : I64 q) {W : World} {base : Nat} {e : TypeId} {v : Value} (h : W.ownsRow base e 3 v (stepsP x q).length ((stepsP x q).flatMap stC)) :
    ∃ ao cap, v = .slice ao (stepsP x q).length cap ∧ Row tStp W ao (stepsP x q).length cap (stepsP x q) :=
  row_own h fun s hs => by
    have := stepsP_pos g q s hs
    unfold I64 at *
    omega
set_option maxHeartbeats 16000000 in
set_option maxRecDepth 100000 in
theorem steps_any (x : Prt) (ta : Option Addr) (tc : Nat) (aa : Option Addr) (ac : Nat) (q : Int) (w : World) (ht : Row tTier w ta x.tiers.length tc x.tiers) (hq : I64 q) (g : GoodT x) :
    Calls Tryz.prog 118 #[.agg #[.int .i64 x.mt, .int .i64 x.a, .int .i64 x.b, .int .i64 x.allowance, .int .i64 x.block, .int .i64 x.kind, .slice ta x.tiers.length tc, .int .i64 x.mode, .slice aa x.adjusts.length ac], .int .i64 q] w fun e w' => ∃ ao cap, e = .returned (.slice ao (stepsP x q).length cap) ∧ Row tStp w' ao (stepsP x q).length cap (stepsP x q) ∧ Below w.heap.size w w' := by
  obtain ⟨tz, hz⟩ : ∃ z, x.tiers[0]? = some z := ⟨_, List.getElem?_eq_getElem (by have := g.len; omega)⟩
  obtain ⟨bt, ot, et, _⟩ := tier_at ht hz
  subst et
  obtain ⟨w1, hw1⟩ : ∃ W, W = w.alloc (.cells ([.int .i64 x.mt, .int .i64 x.a, .int .i64 x.b, .int .i64 x.allowance, .int .i64 x.block, .int .i64 x.kind, .slice (some ⟨bt, ot, none⟩) x.tiers.length tc, .int .i64 x.mode, .slice aa x.adjusts.length ac] : List Value).toArray 58) := ⟨_, rfl⟩
  obtain ⟨k1, hk1⟩ : ∃ k, k = w.heap.size := ⟨_, rfl⟩
  have b1 : Below w.heap.size w w1 := by rw [hw1]; exact bel_alloc _ _
  have X1 : Box w1 k1 [.int .i64 x.mt, .int .i64 x.a, .int .i64 x.b, .int .i64 x.allowance, .int .i64 x.block, .int .i64 x.kind, .slice (some ⟨bt, ot, none⟩) x.tiers.length tc, .int .i64 x.mode, .slice aa x.adjusts.length ac] := by rw [hw1, hk1]; exact Box.new w _ 58
  have X := hid (fun (W : World) (b : Below w1.heap.size w1 W) => (⟨X1.on b, bel_on b1 b⟩ : Box W k1 [.int .i64 x.mt, .int .i64 x.a, .int .i64 x.b, .int .i64 x.allowance, .int .i64 x.block, .int .i64 x.kind, .slice (some ⟨bt, ot, none⟩) x.tiers.length tc, .int .i64 x.mode, .slice aa x.adjusts.length ac] ∧ Below w.heap.size w W))
  have HT := hid (fun (W : World) (b : Below w1.heap.size w1 W) => (ht.on (bel_on b1 b) : Row tTier W (some ⟨bt, ot, none⟩) x.tiers.length tc x.tiers))
  have c5 := X1.cell 5 _ rfl
  have c6 := X1.cell 6 _ rfl
  have l1 := X1.lt
  have HW := hid hw1
  have HK := hid hk1
  have GD := hid g
  have HQ := hid hq
  obtain ⟨n1, n8⟩ := g.len
  have q1 : q ≤ 9223372036854775807 := hq.2
  have q2 : -9223372036854775808 ≤ q := hq.1
  have tm := ht.hmax
  have tcp := ht.hcap
  obtain ⟨i0, hi0, hz0, hz1, hz2⟩ := info_parts info_step
  have wn : IntKind.i64.wrap ((x.tiers.length : Int) - 1) = (x.tiers.length : Int) - 1 := wrap_i (by unfold I64; omega)
  obtain ⟨L, hL⟩ : ∃ L, L = stepsP x q := ⟨_, rfl⟩
  rw [← hL]
  have FIN := hid (fun (W : World) (v : Value) (base : Nat) (e : TypeId) (h : W.ownsRow base e 3 v L.length (L.flatMap stC)) => (by rw [hL] at h ⊢; exact steps_row g hq h : ∃ ao cap, v = .slice ao L.length cap ∧ Row tStp W ao L.length cap L))
  have HLL := hid hL
  have B0 := hid (Below.refl w1.heap.size w1)
  clear hw1 hk1 X1 b1 hz hq g ht hL
  rcases GD.out.kind with hk | hk
  · have qk : (x.kind == 2) = false := by rw [hk]; rfl
    have HG : Hid (gradS q 0 x.tiers = L) := hid (by rw [HLL.out]; unfold stepsP; rw [if_neg (by omega)])
    have HB := hid GD.out.tiers
    clear hk
    go_enter Tryz.func118, Tryz.ntmps118
    go_upto_region 1 with fail
    rw [← HW.out, ← HK.out]
    clear HW HK
    go_wp2
    clear c5 c6 l1
    go_loopw [5, 52] (fun v i wr => ∃ (V : Value) (i' : Nat) (u : Int) (acc : List Stp), v = V ∧ i = .int .i64 (i' : Int) ∧ i' ≤ x.tiers.length ∧ Hid (i' < x.tiers.length → Prev x.tiers i' u) ∧ Hid (tiersB u (x.tiers.drop i') = true) ∧ Hid (L = acc ++ gradS q u (x.tiers.drop i')) ∧ Hid (wr.ownsRow w1.heap.size 158 3 V acc.length (acc.flatMap stC)) ∧ Hid (Below w1.heap.size w1 wr)) (fun _ i _ => x.tiers.length - (intOf i).toNat)
    case atStart => exact ⟨_, 0, 0, [], rfl, rfl, Nat.zero_le _, hid (fun _ => .inl ⟨rfl, rfl⟩), HB, hid HG.out.symm, hid (World.ownsRow_nil _ _ _ _), B0⟩
    case round =>
      obtain ⟨V, i', u, acc, rfl, rfl, hi, hP, hB, hG, hO, hb⟩ := hrel
      clear B0 HG HB
      by_cases hlt : i' < x.tiers.length
      · obtain ⟨y, hy⟩ : ∃ y, x.tiers[i']? = some y := ⟨_, List.getElem?_eq_getElem hlt⟩
        obtain ⟨y0, y1⟩ := tier_in (HT.out _ hb.out) hy
        obtain ⟨wt, hwt⟩ : ∃ W, W = wr.alloc (.cells ([.int .i64 y.upto, .int .i64 y.rate] : List Value).toArray 54) := ⟨_, rfl⟩
        obtain ⟨kt, hkt⟩ : ∃ k, k = wr.heap.size := ⟨_, rfl⟩
        have bt2 : Below wr.heap.size wr wt := by rw [hwt]; exact bel_alloc _ _
        have XT : Box wt kt [.int .i64 y.upto, .int .i64 y.rate] := by rw [hwt, hkt]; exact Box.new _ _ _
        have BT := hid (bel_on hb.out bt2)
        have OT := hid (owns_on hO.out bt2)
        have HXT := hid XT
        have HWT := hid hwt
        have HKT := hid hkt
        have HY := hid hy
        have a6 := (X.out wr hb.out).1.cell 6 _ rfl
        have GL := hid (show i' + 1 = x.tiers.length → gradS q u (x.tiers.drop i') = if u < q then [⟨u, q, y.rate⟩] else [] from fun h => gradS_last hy h)
        have GS := hid (show i' + 1 < x.tiers.length → gradS q u (x.tiers.drop i') = (if u < min q y.upto then [⟨u, min q y.upto, y.rate⟩] else []) ++ gradS q y.upto (x.tiers.drop (i' + 1)) from fun h => gradS_step hy h)
        have AL : acc.length ≤ 8 := by
          have h1 := congrArg List.length hG.out
          have h2 := stepsP_len GD.out q
          rw [← HLL.out, h1, List.length_append] at h2
          omega
        have TS := hid (show i' + 1 < x.tiers.length → 0 ≤ y.rate ∧ y.rate ≤ 1000000000000 ∧ u < y.upto ∧ y.upto ≤ 1000000 ∧ tiersB y.upto (x.tiers.drop (i' + 1)) = true from fun h => by
          have h1 := hB.out
          obtain ⟨t', h'⟩ : ∃ t', x.tiers[i' + 1]? = some t' := ⟨_, List.getElem?_eq_getElem h⟩
          rw [drop_at hy, drop_at h'] at h1
          have h2 := tiersB_cons h1
          rw [drop_at h']
          exact h2)
        have U0 := hid (show 0 ≤ u by rcases hP.out hlt with ⟨_, h⟩ | ⟨_, h, _⟩ <;> omega)
        clear hwt hkt bt2 XT hy hb hO hB
        go_upto_region 16 with fail
        rw [← HWT.out, ← HKT.out]
        clear HWT HKT y0 y1 a6
        have a6 := (X.out wt BT.out).1.cell 6 _ rfl
        go_upto_if 59 with fail
        go_cut [11] (fun v W => v = .int .i64 u ∧ W = wt)
        case first =>
          rcases hP.out hlt with ⟨rfl, rfl⟩ | ⟨p0, p1, p2, z, hz, rfl⟩
          · go_wp2
            go_meet
            exact ⟨rfl, rfl⟩
          · obtain ⟨z0, _⟩ := tier_in (HT.out _ BT.out) hz
            have w5 : IntKind.i64.wrap ((i' : Int) - 1) = (i' : Int) - 1 := wrap_i (by unfold I64; omega)
            have q0 : (0 : Int) < i' := by omega
            have q1 : 0 ≤ (i' : Int) - 1 := by omega
            have q2 : (i' : Int) - 1 < x.tiers.length := by omega
            clear hz
            go_wp2
            go_meet
            exact ⟨rfl, rfl⟩
        case rest =>
          obtain ⟨rfl, rfl⟩ := hcut
          obtain ⟨h, hh⟩ : ∃ h, h = if i' + 1 < x.tiers.length then min q y.upto else q := ⟨_, rfl⟩
          have HH := hid hh
          clear hP a6
          have e0 := HXT.out.cell 0 _ rfl
          have e1 := HXT.out.cell 1 _ rfl
          obtain ⟨T, hT⟩ : ∃ T, T = decide (i' + 1 < x.tiers.length ∧ y.upto < q) := ⟨_, rfl⟩
          have HTT := hid hT
          clear hT hh
          go_upto_region 19 with fail
          go_cut [75] (fun v W => v = .bool T ∧ W = wc)
          case first =>
            by_cases hl : i' + 1 < x.tiers.length
            · have z1 : decide ((i' : Int) < (x.tiers.length : Int) - 1) = true := decide_eq_true (by omega)
              by_cases hq' : y.upto < q
              · have z2 : decide (y.upto < q) = true := decide_eq_true hq'
                have e : T = true := by rw [HTT.out]; exact decide_eq_true ⟨hl, hq'⟩
                subst e
                go_wp2
                go_meet
                exact ⟨rfl, rfl⟩
              · have z2 : decide (y.upto < q) = false := decide_eq_false hq'
                have e : T = false := by rw [HTT.out]; exact decide_eq_false (fun k => hq' k.2)
                subst e
                go_wp2
                go_meet
                exact ⟨rfl, rfl⟩
            · have z1 : decide ((i' : Int) < (x.tiers.length : Int) - 1) = false := decide_eq_false (by omega)
              have e : T = false := by rw [HTT.out]; exact decide_eq_false (fun k => hl k.1)
              subst e
              go_wp2
              go_meet
              exact ⟨rfl, rfl⟩
          case rest =>
            obtain ⟨rfl, rfl⟩ := hcut
            go_upto_if 75 with fail
            go_cut [12] (fun v W => v = .int .i64 h ∧ W = wc)
            case first =>
              cases T with
              | true =>
                have k := of_decide_eq_true HTT.out.symm
                have e : h = y.upto := by rw [HH.out, if_pos k.1]; omega
                subst e
                go_wp2
                go_meet
                exact ⟨rfl, rfl⟩
              | false =>
                have k := of_decide_eq_false HTT.out.symm
                have e : h = q := by
                  rw [HH.out]
                  split
                  · omega
                  · rfl
                subst e
                go_wp2
                go_meet
                exact ⟨rfl, rfl⟩
            case rest =>
              obtain ⟨rfl, rfl⟩ := hcut
              have a6 := (X.out wc BT.out).1.cell 6 _ rfl
              have NEXT := hid (show ∃ u' : Int, (i' + 1 < x.tiers.length → Prev x.tiers (i' + 1) u') ∧ tiersB u' (x.tiers.drop (i' + 1)) = true ∧ L = (acc ++ (if u < h then [⟨u, h, y.rate⟩] else [])) ++ gradS q u' (x.tiers.drop (i' + 1)) from by
                by_cases hl : i' + 1 < x.tiers.length
                · obtain ⟨_, _, u0, u1, u2⟩ := TS.out hl
                  refine ⟨y.upto, fun _ => .inr ⟨Nat.succ_pos _, ?_, u1, y, HY.out, rfl⟩, u2, ?_⟩
                  · have := U0.out
                    omega
                  · rw [hG.out, GS.out hl, HH.out, if_pos hl, List.append_assoc]
                · have hl' : i' + 1 = x.tiers.length := by omega
                  refine ⟨0, fun k => absurd k hl, ?_, ?_⟩
                  · rw [List.drop_of_length_le (by omega)]
                    rfl
                  · rw [hG.out, GL.out hl', HH.out, if_neg hl, List.drop_of_length_le (by omega)]
                    show _ = _ ++ []
                    rw [List.append_nil])
              have hsz : w1.heap.size ≤ wc.heap.size := BT.out.size
              have aoe : acc.length + 1 ≤ 1000 := by omega
              clear hG GL GS TS HTT HH
              by_cases hlo : u < h
              · have z1 : decide (u < h) = true := decide_eq_true hlo
                have oo := OT.out
                obtain ⟨u', N1, N2, N3⟩ := NEXT.out
                rw [if_pos hlo] at N3
                have N1 := hid N1
                have N2 := hid N2
                have N3 := hid N3
                clear NEXT
                go_wp2_with (at_builtin; refine wpList_append_own _ rfl _ _ 156 rfl w1.heap.size 158 i0 (.agg #[.int .i64 0, .int .i64 0, .int .i64 0]) 3 24 Tryz.underlying156 hi0 hz0 hz1 hz2 rfl (by decide) _ _ _ rfl (oo.alloc _) ⟨wc.heap.size, 0, none⟩ 1 1 (stC ⟨u, h, y.rate⟩) rfl rfl (news_at wc (stC ⟨u, h, y.rate⟩) _) (by simp [stC, Value.oneCell']) (by unfold maxLen; omega) (by omega) (by simp; omega) ?_)
                intro v5 w5 hown hgrow _
                have B5 := hid ((BT.out.alloc hsz _).grown hgrow (BT.out.alloc hsz _).size (fun j hj => (oo.lt j hj).1))
                have O5 := hid hown
                clear hown hgrow oo
                go_wp2
                go_roundw
                case rel => exact ⟨_, i' + 1, u', acc ++ [⟨u, h, y.rate⟩], rfl, by simp, by omega, N1, N2, N3, hid (by
                  simp only [List.length_append, List.length_singleton, List.flatMap_append, List.flatMap_cons, List.flatMap_nil, List.append_nil]
                  exact O5.out), B5⟩
                case measure => simp [intOf]; omega
              · have z1 : decide (u < h) = false := decide_eq_false hlo
                obtain ⟨u', N1, N2, N3⟩ := NEXT.out
                rw [if_neg hlo, List.append_nil] at N3
                have N1 := hid N1
                have N2 := hid N2
                have N3 := hid N3
                clear NEXT
                go_wp2
                go_roundw
                case rel => exact ⟨_, i' + 1, u', acc, rfl, by simp, by omega, N1, N2, N3, OT, BT⟩
                case measure => simp [intOf]; omega
      · have hE := hid (show L = acc by
          rw [hG.out, List.drop_of_length_le (by omega)]
          show acc ++ [] = acc
          exact List.append_nil _)
        clear hP hB hG
        obtain ⟨ao, cap, e, R⟩ := FIN.out wr _ _ _ (by rw [hE.out]; exact hO.out)
        subst e
        have RR := hid R
        have BB := hid (X.out wr hb.out).2
        clear R hO
        go_wp2
        go_ret
        exact ⟨ao, cap, rfl, RR.out, BB.out⟩
  · have qk : (x.kind == 2) = true := by rw [hk]; rfl
    have HG : Hid (L = volS q x.tiers) := hid (by rw [HLL.out]; unfold stepsP; rw [if_pos hk])
    clear hk
    go_enter Tryz.func118, Tryz.ntmps118
    go_upto_region 1 with fail
    rw [← HW.out, ← HK.out]
    clear HW HK
    go_wp2
    clear c5 c6 l1
    go_loopw [5, 23] (fun v i wr => ∃ i' : Nat, v = .slice none 0 0 ∧ i = .int .i64 (i' : Int) ∧ i' < x.tiers.length ∧ Hid (volR q x.tiers = volR q (x.tiers.drop i')) ∧ Hid (Below w1.heap.size w1 wr)) (fun _ i _ => x.tiers.length - (intOf i).toNat)
    case atStart => exact ⟨0, rfl, rfl, by omega, hid rfl, B0⟩
    case round =>
      obtain ⟨i', rfl, rfl, hlt, hV, hb⟩ := hrel
      clear B0
      obtain ⟨y, hy⟩ : ∃ y, x.tiers[i']? = some y := ⟨_, List.getElem?_eq_getElem hlt⟩
      obtain ⟨y0, y1⟩ := tier_in (HT.out _ hb.out) hy
      obtain ⟨wt, hwt⟩ : ∃ W, W = wr.alloc (.cells ([.int .i64 y.upto, .int .i64 y.rate] : List Value).toArray 54) := ⟨_, rfl⟩
      obtain ⟨kt, hkt⟩ : ∃ k, k = wr.heap.size := ⟨_, rfl⟩
      have bt2 : Below wr.heap.size wr wt := by rw [hwt]; exact bel_alloc _ _
      have XT : Box wt kt [.int .i64 y.upto, .int .i64 y.rate] := by rw [hwt, hkt]; exact Box.new _ _ _
      have BT := hid (bel_on hb.out bt2)
      have hsz : w1.heap.size ≤ wt.heap.size := BT.out.size
      have e0 := XT.cell 0 _ rfl
      have e1 := XT.cell 1 _ rfl
      have HWT := hid hwt
      have HKT := hid hkt
      have HY := hid hy
      clear hwt hkt bt2 XT hy hb
      go_upto_region 7 with fail
      rw [← HWT.out, ← HKT.out]
      clear HWT HKT y0 y1
      by_cases hl : i' + 1 = x.tiers.length
      · have z1 : ((i' : Int) == (x.tiers.length : Int) - 1) = true := by simp; omega
        have VR := hid (show volR q x.tiers = y.rate from hV.out.trans (volR_last HY.out hl))
        clear hV
        by_cases hq0 : 0 < q
        · have z3 : decide (0 < q) = true := decide_eq_true hq0
          have EL : Hid (L = [⟨0, q, y.rate⟩]) := hid (by rw [HG.out]; unfold volS; rw [if_pos hq0, VR.out])
          have oo : wt.ownsRow w1.heap.size 158 3 (.slice none 0 0) 0 [] := World.ownsRow_nil _ _ _ _
          clear VR
          go_wp2_with (at_builtin; refine wpList_append_own _ rfl _ _ 156 rfl w1.heap.size 158 i0 (.agg #[.int .i64 0, .int .i64 0, .int .i64 0]) 3 24 Tryz.underlying156 hi0 hz0 hz1 hz2 rfl (by decide) _ _ _ rfl (oo.alloc _) ⟨wt.heap.size, 0, none⟩ 1 1 (stC ⟨0, q, y.rate⟩) rfl rfl (news_at wt (stC ⟨0, q, y.rate⟩) _) (by simp [stC, Value.oneCell']) (by unfold maxLen; omega) (by omega) (by simp; omega) ?_)
          intro v5 w5 hown hgrow _
          have B5 := hid ((BT.out.alloc hsz _).grown hgrow (BT.out.alloc hsz _).size (fun j hj => (oo.lt j hj).1))
          obtain ⟨ao, cap, e, R⟩ := FIN.out w5 v5 w1.heap.size 158 (by rw [EL.out]; exact hown)
          subst e
          have RR := hid R
          have BB := hid (X.out w5 B5.out).2
          clear R hown hgrow oo
          go_wp2
          go_ret
          exact ⟨ao, cap, rfl, RR.out, BB.out⟩
        · have z3 : decide (0 < q) = false := decide_eq_false hq0
          have EL : Hid (L = []) := hid (by rw [HG.out]; unfold volS; rw [if_neg hq0])
          obtain ⟨ao, cap, e, R⟩ := FIN.out wt (.slice none 0 0) w1.heap.size 158 (by rw [EL.out]; exact World.ownsRow_nil _ _ _ _)
          simp only [EL.out, List.length_nil, Value.slice.injEq, true_and] at e
          obtain ⟨rfl, rfl⟩ := e
          have RR := hid R
          have BB := hid (X.out wt BT.out).2
          clear R VR
          go_wp2
          go_ret
          exact ⟨none, 0, by rw [EL.out]; rfl, RR.out, BB.out⟩
      · have z1 : ((i' : Int) == (x.tiers.length : Int) - 1) = false := by simp; omega
        by_cases hqy : q ≤ y.upto
        · have z2 : decide (q ≤ y.upto) = true := decide_eq_true hqy
          have VR := hid (show volR q x.tiers = y.rate by rw [hV.out, volR_step HY.out (by omega), if_pos hqy])
          clear hV
          by_cases hq0 : 0 < q
          · have z3 : decide (0 < q) = true := decide_eq_true hq0
            have EL : Hid (L = [⟨0, q, y.rate⟩]) := hid (by rw [HG.out]; unfold volS; rw [if_pos hq0, VR.out])
            have oo : wt.ownsRow w1.heap.size 158 3 (.slice none 0 0) 0 [] := World.ownsRow_nil _ _ _ _
            clear VR
            go_wp2_with (at_builtin; refine wpList_append_own _ rfl _ _ 156 rfl w1.heap.size 158 i0 (.agg #[.int .i64 0, .int .i64 0, .int .i64 0]) 3 24 Tryz.underlying156 hi0 hz0 hz1 hz2 rfl (by decide) _ _ _ rfl (oo.alloc _) ⟨wt.heap.size, 0, none⟩ 1 1 (stC ⟨0, q, y.rate⟩) rfl rfl (news_at wt (stC ⟨0, q, y.rate⟩) _) (by simp [stC, Value.oneCell']) (by unfold maxLen; omega) (by omega) (by simp; omega) ?_)
            intro v5 w5 hown hgrow _
            have B5 := hid ((BT.out.alloc hsz _).grown hgrow (BT.out.alloc hsz _).size (fun j hj => (oo.lt j hj).1))
            obtain ⟨ao, cap, e, R⟩ := FIN.out w5 v5 w1.heap.size 158 (by rw [EL.out]; exact hown)
            subst e
            have RR := hid R
            have BB := hid (X.out w5 B5.out).2
            clear R hown hgrow oo
            go_wp2
            go_ret
            exact ⟨ao, cap, rfl, RR.out, BB.out⟩
          · have z3 : decide (0 < q) = false := decide_eq_false hq0
            have EL : Hid (L = []) := hid (by rw [HG.out]; unfold volS; rw [if_neg hq0])
            obtain ⟨ao, cap, e, R⟩ := FIN.out wt (.slice none 0 0) w1.heap.size 158 (by rw [EL.out]; exact World.ownsRow_nil _ _ _ _)
            simp only [EL.out, List.length_nil, Value.slice.injEq, true_and] at e
            obtain ⟨rfl, rfl⟩ := e
            have RR := hid R
            have BB := hid (X.out wt BT.out).2
            clear R VR
            go_wp2
            go_ret
            exact ⟨none, 0, by rw [EL.out]; rfl, RR.out, BB.out⟩
        · have z2 : decide (q ≤ y.upto) = false := decide_eq_false hqy
          have VR := hid (show volR q x.tiers = volR q (x.tiers.drop (i' + 1)) by rw [hV.out, volR_step HY.out (by omega), if_neg hqy])
          clear hV
          go_wp2
          go_roundw
          case rel => exact ⟨i' + 1, rfl, by simp, by omega, VR, BT⟩
          case measure => simp [intOf]; omega
end Go.Proofs.YtjgogpaedaffkaaGreat.R11

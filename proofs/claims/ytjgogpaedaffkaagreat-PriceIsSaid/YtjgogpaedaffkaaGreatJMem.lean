/- The document's answers for layer 11 (poundageref11): Micro, Charge. -/
import Derived.Test.YtjgogpaedaffkaaGreatJAdjP
import Derived.Test.YtjgogpaedaffkaaGreatJRef11
import Derived.Lib.QuietBelow
import Derived.BigQuiet
import Derived.Test.YtjgogpaedaffkaaGreatJPureS
import Derived.WalkSmall
import Derived.WalkKit
namespace Go.Proofs.YtjgogpaedaffkaaGreat.P
end Go.Proofs.YtjgogpaedaffkaaGreat.P
namespace Go.Proofs.YtjgogpaedaffkaaGreat.Mm
end Go.Proofs.YtjgogpaedaffkaaGreat.Mm
namespace Go.Proofs.YtjgogpaedaffkaaGreat.Md
end Go.Proofs.YtjgogpaedaffkaaGreat.Md
namespace Go.Proofs.YtjgogpaedaffkaaGreat.R6
end Go.Proofs.YtjgogpaedaffkaaGreat.R6
namespace Go.Proofs.YtjgogpaedaffkaaGreat.Te
end Go.Proofs.YtjgogpaedaffkaaGreat.Te
namespace Go.Proofs.YtjgogpaedaffkaaGreat.Co
end Go.Proofs.YtjgogpaedaffkaaGreat.Co
namespace Go.Proofs.YtjgogpaedaffkaaGreat.R10
end Go.Proofs.YtjgogpaedaffkaaGreat.R10
namespace Go.Proofs.YtjgogpaedaffkaaGreat.R11
end Go.Proofs.YtjgogpaedaffkaaGreat.R11
namespace Go.Proofs.YtjgogpaedaffkaaGreat.R11
open Go.RowKit Go.Sort P Mm Md R6 Te Co R10
theorem lqO_v {x : Prt} {q : Int} (h : lqOk x q = true) : lqO x q = some (lq x q) := by unfold lqO; rw [if_pos h]
theorem lqO_n {x : Prt} {q : Int} (h : lqOk x q = false) : lqO x q = none := by unfold lqO; rw [h]; rfl
theorem microO_n {x : Prt} {q : Int} (h : lqOk x q = false) : microO x q = none := by unfold microO; rw [h]; rfl
theorem microO_v {x : Prt} {q : Int} (h : lqOk x q = true) : microO x q = sumS 0 (stepsP x (lq x q)) := by unfold microO; rw [if_pos h]
theorem lqOk_i {x : Prt} {q : Int} (h : lqOk x q = true) : I64 (lq x q) := by
  unfold lqOk at h
  rw [Bool.and_eq_true] at h
  exact ok64_i h.2
theorem sumS_step {s : Int} {l : List Stp} {i : Nat} {t : Stp} (h : l[i]? = some t) : sumS s (l.drop i) = if (ok64 (stW t) && ok64 (s + stW t)) = true then sumS (s + stW t) (l.drop (i + 1)) else none := by
  rw [drop_at h]
  rfl
theorem stp_in {w : World} {ao : Option Addr} {len cap : Nat} {xs : List Stp} (h : Row tStp w ao len cap xs) {j : Nat} {m : Stp} (hj : xs[j]? = some m) :
    ∃ b o, ao = some ⟨b, o, none⟩ ∧ b < w.heap.size ∧ w.cell? ⟨b, o + j * 3, none⟩ = some (.int .i64 m.a) ∧ w.cell? ⟨b, o + j * 3 + 1, none⟩ = some (.int .i64 m.b) ∧ w.cell? ⟨b, o + j * 3 + 2, none⟩ = some (.int .i64 m.r) := by
  obtain ⟨b, o, cs, h1, h2, ⟨h3, _⟩, h4⟩ := h.at hj
  subst h3
  exact ⟨b, o, h1, h2, h4 0 _ rfl, h4 1 _ rfl, h4 2 _ rfl⟩
set_option maxHeartbeats 8000000 in
set_option maxRecDepth 100000 in
theorem micro_any (x : Prt) (ta : Option Addr) (tc : Nat) (aa : Option Addr) (ac : Nat) (q : Int) (w : World) (ht : Row tTier w ta x.tiers.length tc x.tiers) (hq : I64 q) (g : GoodT x) :
    Calls Tryz.prog 103 #[.agg #[.int .i64 x.mt, .int .i64 x.a, .int .i64 x.b, .int .i64 x.allowance, .int .i64 x.block, .int .i64 x.kind, .slice ta x.tiers.length tc, .int .i64 x.mode, .slice aa x.adjusts.length ac], .int .i64 q] w fun e w' => e = .returned (.tuple #[.int .i64 (oV (microO x q)), .bool (oB (microO x q))]) ∧ Below w.heap.size w w' := by
  obtain ⟨w1, hw1⟩ : ∃ W, W = w.alloc (.cells ([.int .i64 x.mt, .int .i64 x.a, .int .i64 x.b, .int .i64 x.allowance, .int .i64 x.block, .int .i64 x.kind, .slice ta x.tiers.length tc, .int .i64 x.mode, .slice aa x.adjusts.length ac] : List Value).toArray 58) := ⟨_, rfl⟩
  obtain ⟨k1, hk1⟩ : ∃ k, k = w.heap.size := ⟨_, rfl⟩
  have b1 : Below w.heap.size w w1 := by rw [hw1]; exact bel_alloc _ _
  have X1 : Box w1 k1 [.int .i64 x.mt, .int .i64 x.a, .int .i64 x.b, .int .i64 x.allowance, .int .i64 x.block, .int .i64 x.kind, .slice ta x.tiers.length tc, .int .i64 x.mode, .slice aa x.adjusts.length ac] := by rw [hw1, hk1]; exact Box.new w _ 58
  have X := hid (fun (W : World) (b : Below w1.heap.size w1 W) => (⟨X1.on b, bel_on b1 b⟩ : Box W k1 [.int .i64 x.mt, .int .i64 x.a, .int .i64 x.b, .int .i64 x.allowance, .int .i64 x.block, .int .i64 x.kind, .slice ta x.tiers.length tc, .int .i64 x.mode, .slice aa x.adjusts.length ac] ∧ Below w.heap.size w W))
  have c0 := X1.cell 0 _ rfl; have c1 := X1.cell 1 _ rfl; have c2 := X1.cell 2 _ rfl; have c3 := X1.cell 3 _ rfl; have c4 := X1.cell 4 _ rfl; have c5 := X1.cell 5 _ rfl; have c6 := X1.cell 6 _ rfl; have c7 := X1.cell 7 _ rfl; have c8 := X1.cell 8 _ rfl
  have l1 := X1.lt
  have HW := hid hw1
  have HK := hid hk1
  have cL := left_any x ta tc aa ac q w1 hq g
  have cS := hid (fun (W : World) (b : Below w1.heap.size w1 W) (h : I64 (lq x q)) => steps_any x ta tc aa ac (lq x q) W (ht.on (bel_on b1 b)) h g)
  obtain ⟨R, hR⟩ : ∃ R, R = microO x q := ⟨_, rfl⟩
  rw [← hR]
  have GD := hid g
  rcases Bool.eq_false_or_eq_true (lqOk x q) with ok | ok
  rotate_left
  · rw [lqO_n ok, show oV none = 0 from rfl, show oB none = false from rfl] at cL
    have E := hid (show R = none by rw [hR, microO_n ok])
    have cL := hid cL
    clear hw1 hk1 b1 X1 ht hq g hR ok cS
    go_enter Tryz.func103, Tryz.ntmps103
    go_upto_region 1 with fail
    rw [← HW.out, ← HK.out]
    go_wp2_with fail
    refine cL.out.mono ?_
    rintro e w2 ⟨rfl, b2⟩
    have B2 := hid (X.out w2 b2).2
    clear b2 cL c0 c1 c2 c3 c4 c5 c6 c7 c8 l1
    go_wp2
    go_ret2
    exact ⟨by rw [E.out]; rfl, B2.out⟩
  rw [lqO_v ok, show oV (some (lq x q)) = lq x q from rfl, show oB (some (lq x q)) = true from rfl] at cL
  have cL := hid cL
  have LI := hid (lqOk_i ok)
  obtain ⟨L, hL⟩ : ∃ L, L = stepsP x (lq x q) := ⟨_, rfl⟩
  obtain ⟨n, hn⟩ : ∃ n, n = lq x q := ⟨_, rfl⟩
  have R0 := hid (show R = sumS 0 (L.drop 0) by rw [hR, microO_v ok, hL]; rfl)
  have SP := hid (show ∀ s ∈ L, 0 ≤ s.a ∧ s.a < s.b ∧ s.b ≤ n ∧ 0 ≤ s.r ∧ s.r ≤ 1000000000000 from by rw [hL, hn]; exact stepsP_pos g _)
  rw [← hn] at cL cS LI hL
  rw [← hL] at cS
  have SL : L.length ≤ 8 := by rw [hL]; exact stepsP_len g _
  clear hw1 hk1 b1 X1 ht hq g hR ok hL hn
  go_enter Tryz.func103, Tryz.ntmps103
  go_upto_region 1 with fail
  rw [← HW.out, ← HK.out]
  go_wp2_with fail
  refine cL.out.mono ?_
  rintro e w2 ⟨rfl, b2⟩
  have B2 := hid b2
  have Y := (X.out w2 b2).1
  clear b2 cL c0 c1 c2 c3 c4 c5 c6 c7 c8 l1
  have c0 := Y.cell 0 _ rfl; have c1 := Y.cell 1 _ rfl; have c2 := Y.cell 2 _ rfl; have c3 := Y.cell 3 _ rfl; have c4 := Y.cell 4 _ rfl; have c5 := Y.cell 5 _ rfl; have c6 := Y.cell 6 _ rfl; have c7 := Y.cell 7 _ rfl; have c8 := Y.cell 8 _ rfl
  have l1 := Y.lt
  clear Y
  go_wp2_with fail
  refine (cS.out _ B2.out LI.out).mono ?_
  rintro e w3 ⟨bo, cbp, rfl, R3, b3⟩
  have B3 := hid (bel_on B2.out b3)
  have RW := hid R3
  have cbm := R3.hmax
  have cbl := R3.hcap
  clear b3 cS R3 B2 c0 c1 c2 c3 c4 c5 c6 c7 c8 l1
  go_wp2
  go_loopw [8, 27] (fun v i wr => ∃ (s0 : Int) (i' : Nat), v = .int .i64 s0 ∧ i = .int .i64 (i' : Int) ∧ i' ≤ L.length ∧ Hid (R = sumS s0 (L.drop i')) ∧ Hid (I64 s0) ∧ Hid (Below w3.heap.size w3 wr)) (fun _ i _ => L.length - (intOf i).toNat)
  case atStart => exact ⟨0, 0, rfl, rfl, Nat.zero_le _, R0, hid (by unfold I64; omega), hid (Below.refl _ _)⟩
  case round =>
    obtain ⟨s0, i', rfl, rfl, hi, hR, hS0, hb⟩ := hrel
    clear R0
    by_cases hlt : i' < L.length
    · obtain ⟨s, hs⟩ : ∃ s, L[i']? = some s := ⟨_, List.getElem?_eq_getElem hlt⟩
      obtain ⟨ba, oa, ea, la, a0, a1, a2⟩ := stp_in (RW.out.on hb.out) hs
      subst ea
      obtain ⟨wt, hwt⟩ : ∃ W, W = wr.alloc (.cells ([.int .i64 s.a, .int .i64 s.b, .int .i64 s.r] : List Value).toArray 158) := ⟨_, rfl⟩
      obtain ⟨kt, hkt⟩ : ∃ k, k = wr.heap.size := ⟨_, rfl⟩
      have bt2 : Below wr.heap.size wr wt := by rw [hwt]; exact bel_alloc _ _
      have XT : Box wt kt [.int .i64 s.a, .int .i64 s.b, .int .i64 s.r] := by rw [hwt, hkt]; exact Box.new _ _ _
      have BT := hid (bel_on hb.out bt2)
      have e0 := XT.cell 0 _ rfl
      have e1 := XT.cell 1 _ rfl
      have e2 := XT.cell 2 _ rfl
      have HWT := hid hwt
      have HKT := hid hkt
      obtain ⟨p0, p1, p2, p3, p4⟩ := SP.out s (List.mem_of_getElem? hs)
      have p5 := LI.out.2
      have v1 : IntKind.i64.wrap (s.b - s.a) = s.b - s.a := wrap_i (by unfold I64; omega)
      have hR2 := hR.out
      rw [sumS_step hs] at hR2
      obtain ⟨M, hM⟩ : ∃ M, M = stW s := ⟨_, rfl⟩
      rw [← hM] at hR2
      have HR2 := hid hR2
      have cM := hid (fun (W : World) => by
        have := R1.mul_any s.r (s.b - s.a) W (by unfold I64; omega) (by unfold I64; omega)
        rw [show s.r * (s.b - s.a) = M from hM.symm] at this
        exact this)
      have cI := hid (fun (W : World) => R1.int_any M W)
      have cO1 := hid (fun (W : World) => R1.of_any s0 W hS0.out)
      have cO2 := hid (fun (W : World) => R1.of_any (cut64 M) W (i64_cut M))
      have cS := hid (fun (W : World) => R1.add_any s0 (cut64 M) W (by have := hS0.out; unfold I64 at this; unfold two127; omega) (by have := i64_cut M; unfold I64 at this; unfold two127; omega))
      have cJ := hid (fun (W : World) => R1.int_any (s0 + cut64 M) W)
      clear hwt hkt bt2 XT hs hb hR hR2 hM
      go_upto_region 8 with fail
      rw [← HWT.out, ← HKT.out]
      clear HWT HKT a0 a1 a2 la
      go_wp2_with fail
      refine (cM.out _).mono ?_
      rintro e w4 ⟨rfl, b4⟩
      have B4 := hid (bel_on BT.out b4)
      clear b4 cM BT e0 e1 e2 p0 p1 p2 p3 p4 p5
      go_wp2_with fail
      refine (cI.out _).mono ?_
      rintro e w5 ⟨rfl, b5⟩
      have B5 := hid (bel_on B4.out b5)
      clear b5 cI B4
      go_wp2_with fail
      refine (cO1.out _).mono ?_
      rintro e w6 ⟨rfl, b6⟩
      have B6 := hid (bel_on B5.out b6)
      clear b6 cO1 B5
      go_wp2_with fail
      refine (cO2.out _).mono ?_
      rintro e w7 ⟨rfl, b7⟩
      have B7 := hid (bel_on B6.out b7)
      clear b7 cO2 B6
      go_wp2_with fail
      refine (cS.out _).mono ?_
      rintro e w8 ⟨rfl, b8⟩
      have B8 := hid (bel_on B7.out b8)
      clear b8 cS B7
      go_wp2_with fail
      refine (cJ.out _).mono ?_
      rintro e w9 ⟨rfl, b9⟩
      have B9 := hid (bel_on B8.out b9)
      have BF := hid (X.out w9 (bel_on B3.out B9.out)).2
      clear b9 cJ B8
      by_cases m1 : I64 M
      rotate_left
      · have E := hid (show R = none by rw [HR2.out, ok64_f m1]; rfl)
        rw [ok64_f m1]
        clear m1 HR2
        go_wp2
        go_ret2
        exact ⟨by rw [E.out]; rfl, BF.out⟩
      rw [ok64_t m1, cut64_t m1]
      by_cases m2 : I64 (s0 + M)
      rotate_left
      · have E := hid (show R = none by rw [HR2.out, ok64_f m2, Bool.and_false]; rfl)
        rw [ok64_f m2]
        clear m1 m2 HR2
        go_wp2
        go_ret2
        exact ⟨by rw [E.out]; rfl, BF.out⟩
      have E := hid (show R = sumS (s0 + M) (L.drop (i' + 1)) by rw [HR2.out, ok64_t m1, ok64_t m2]; rfl)
      have HS := hid m2
      rw [ok64_t m2, cut64_t m2]
      clear m1 m2 HR2
      go_wp2
      go_roundw
      case rel => exact ⟨s0 + M, i' + 1, rfl, by simp, by omega, E, HS, B9⟩
      case measure => simp [intOf]; omega
    · have E := hid (show R = some s0 by rw [hR.out, List.drop_of_length_le (by omega)]; rfl)
      have BF := hid (X.out wr (bel_on B3.out hb.out)).2
      clear hR
      go_wp2
      go_ret2
      exact ⟨by rw [E.out]; rfl, BF.out⟩
theorem div_ok {n mode : Int} (hn : I64 n) (hm : goodm mode = true) : mdb n 1000000 mode = true ∧ mdn n 1000000 mode = rnd n 1000000 mode ∧ I64 (rnd n 1000000 mode) := by
  have h := rnd_ge n 1000000 mode
  have hi : I64 (rnd n 1000000 mode) := by unfold I64 at *; omega
  rw [mdb_good (by omega) hm, mdn_good (by omega) hm, ok64_t hi, cut64_t hi]
  exact ⟨rfl, rfl, hi⟩
theorem sumS_i64 : ∀ (l : List Stp) (s n : Int), I64 s → sumS s l = some n → I64 n
  | [], s, n, hs, h => by
    have h : some s = some n := h
    obtain rfl := Option.some.inj h
    exact hs
  | t :: l, s, n, hs, h => by
    unfold sumS at h
    split at h
    · rename_i k
      rw [Bool.and_eq_true] at k
      exact sumS_i64 l _ n (ok64_i k.2) h
    · cases h
theorem microO_i {x : Prt} {q n : Int} (h : microO x q = some n) : I64 n := by
  unfold microO at h
  split at h
  · exact sumS_i64 _ 0 n (by unfold I64; omega) h
  · cases h
set_option maxHeartbeats 4000000 in
set_option maxRecDepth 100000 in
theorem charge_any (x : Prt) (ta : Option Addr) (tc : Nat) (aa : Option Addr) (ac : Nat) (q : Int) (w : World) (ht : Row tTier w ta x.tiers.length tc x.tiers) (hq : I64 q) (g : GoodT x) :
    Calls Tryz.prog 74 #[.agg #[.int .i64 x.mt, .int .i64 x.a, .int .i64 x.b, .int .i64 x.allowance, .int .i64 x.block, .int .i64 x.kind, .slice ta x.tiers.length tc, .int .i64 x.mode, .slice aa x.adjusts.length ac], .int .i64 q] w fun e w' => e = .returned (.tuple #[.int .i64 (oV (chargeO x q)), .bool (oB (chargeO x q))]) ∧ Below w.heap.size w w' := by
  obtain ⟨w1, hw1⟩ : ∃ W, W = w.alloc (.cells ([.int .i64 x.mt, .int .i64 x.a, .int .i64 x.b, .int .i64 x.allowance, .int .i64 x.block, .int .i64 x.kind, .slice ta x.tiers.length tc, .int .i64 x.mode, .slice aa x.adjusts.length ac] : List Value).toArray 58) := ⟨_, rfl⟩
  obtain ⟨k1, hk1⟩ : ∃ k, k = w.heap.size := ⟨_, rfl⟩
  have b1 : Below w.heap.size w w1 := by rw [hw1]; exact bel_alloc _ _
  have X1 : Box w1 k1 [.int .i64 x.mt, .int .i64 x.a, .int .i64 x.b, .int .i64 x.allowance, .int .i64 x.block, .int .i64 x.kind, .slice ta x.tiers.length tc, .int .i64 x.mode, .slice aa x.adjusts.length ac] := by rw [hw1, hk1]; exact Box.new w _ 58
  have X := hid (fun (W : World) (b : Below w1.heap.size w1 W) => (⟨X1.on b, bel_on b1 b⟩ : Box W k1 [.int .i64 x.mt, .int .i64 x.a, .int .i64 x.b, .int .i64 x.allowance, .int .i64 x.block, .int .i64 x.kind, .slice ta x.tiers.length tc, .int .i64 x.mode, .slice aa x.adjusts.length ac] ∧ Below w.heap.size w W))
  have c0 := X1.cell 0 _ rfl; have c1 := X1.cell 1 _ rfl; have c2 := X1.cell 2 _ rfl; have c3 := X1.cell 3 _ rfl; have c4 := X1.cell 4 _ rfl; have c5 := X1.cell 5 _ rfl; have c6 := X1.cell 6 _ rfl; have c7 := X1.cell 7 _ rfl; have c8 := X1.cell 8 _ rfl
  have l1 := X1.lt
  have HW := hid hw1
  have HK := hid hk1
  have cM := micro_any x ta tc aa ac q w1 (ht.on b1) hq g
  have MI := hid (fun n (h : microO x q = some n) => microO_i h)
  have GM := hid (gt_mode g)
  have EC : chargeO x q = (microO x q).map fun m => rnd m 1000000 x.mode := rfl
  rw [EC]
  obtain ⟨M, hM⟩ : ∃ M, M = microO x q := ⟨_, rfl⟩
  rw [← hM] at cM MI ⊢
  have cM := hid cM
  clear hw1 hk1 b1 X1 ht hq g hM EC
  go_enter Tryz.func74, Tryz.ntmps74
  go_upto_region 1 with fail
  rw [← HW.out, ← HK.out]
  go_wp2_with fail
  refine cM.out.mono ?_
  rintro e w2 ⟨rfl, b2⟩
  have B2 := hid (X.out w2 b2).2
  have c7 := (X.out w2 b2).1.cell 7 _ rfl
  have l1 := (X.out w2 b2).1.lt
  clear b2 cM c0 c1 c2 c3 c4 c5 c6 c8
  cases M with
  | none =>
    rw [show oV none = 0 from rfl, show oB none = false from rfl]
    go_wp2
    go_ret2
    exact ⟨rfl, B2.out⟩
  | some n =>
    rw [show oV (some n) = n from rfl, show oB (some n) = true from rfl]
    obtain ⟨e1, e2, _⟩ := div_ok (MI.out n rfl) GM.out
    have cD := hid (show Calls Tryz.prog 57 #[.int .i64 n, .int .i64 1, .int .i64 1000000, .int .i64 x.mode] w2 fun e w' => e = .returned (.tuple #[.int .i64 (rnd n 1000000 x.mode), .bool true]) ∧ Below w2.heap.size w2 w' by
      have := R2.muldiv_any n 1 1000000 x.mode w2 (MI.out n rfl) (by unfold I64; omega) (by unfold I64; omega)
      rw [Int.mul_one, e1, e2] at this
      exact this)
    clear e1 e2
    go_wp2_with fail
    refine cD.out.mono ?_
    rintro e w3 ⟨rfl, b3⟩
    have B3 := hid (bel_on B2.out b3)
    clear b3 cD
    go_wp2
    go_ret2
    exact ⟨rfl, B3.out⟩
end Go.Proofs.YtjgogpaedaffkaaGreat.R11
/- The document's answers for layer 12 (poundageref12): One, All. -/
namespace Go.Proofs.YtjgogpaedaffkaaGreat.R12
open Go.RowKit Go.Sort P Mm Md R6 Te Co R10 R11
theorem mdn_f {p c mode : Int} (h : mdb p c mode = false) : mdn p c mode = 0 := by
  unfold mdn
  split
  · rename_i k
    unfold mdb at h
    rw [k, Bool.true_and] at h
    unfold cut64
    rw [h]
    rfl
  · rfl
set_option maxHeartbeats 4000000 in
set_option maxRecDepth 100000 in
theorem one_any (a : Adj) (n : Int) (w : World) (hn : I64 n) (ha : I64 a.num) (_hm : I64 a.mode) :
    Calls Tryz.prog 104 #[.agg #[.int .i64 a.kind, .int .i64 a.num, .int .i64 a.mode], .int .i64 n] w fun e w' => e = .returned (.tuple #[.int .i64 (oV (adjO a n)), .bool (oB (adjO a n))]) ∧ Below w.heap.size w w' := by
  obtain ⟨w1, hw1⟩ : ∃ W, W = w.alloc (.cells ([.int .i64 a.kind, .int .i64 a.num, .int .i64 a.mode] : List Value).toArray 115) := ⟨_, rfl⟩
  obtain ⟨k1, hk1⟩ : ∃ k, k = w.heap.size := ⟨_, rfl⟩
  have b1 : Below w.heap.size w w1 := by rw [hw1]; exact bel_alloc _ _
  have X1 : Box w1 k1 [.int .i64 a.kind, .int .i64 a.num, .int .i64 a.mode] := by rw [hw1, hk1]; exact Box.new w _ 115
  have c0 := X1.cell 0 _ rfl
  have c1 := X1.cell 1 _ rfl
  have c2 := X1.cell 2 _ rfl
  have l1 := X1.lt
  have HW := hid hw1
  have HK := hid hk1
  have B1 := hid b1
  have HX := hid X1
  obtain ⟨V, hV⟩ : ∃ V, V = oV (adjO a n) := ⟨_, rfl⟩
  obtain ⟨O, hO⟩ : ∃ O, O = oB (adjO a n) := ⟨_, rfl⟩
  rw [← hV, ← hO]
  by_cases h1 : a.kind = 1
  · have z1 : (a.kind == 1) = true := by simpa using h1
    have c := R2.muldiv_any n a.num 100000 a.mode w1 hn ha (by unfold I64; omega)
    have e : V = mdn (n * a.num) 100000 a.mode ∧ O = mdb (n * a.num) 100000 a.mode := by
      rw [hV, hO]
      unfold adjO
      rw [if_pos h1]
      split
      · rename_i k
        rw [k]
        exact ⟨rfl, rfl⟩
      · rename_i k
        have k' : mdb (n * a.num) 100000 a.mode = false := by simpa using k
        rw [k', mdn_f k']
        exact ⟨rfl, rfl⟩
    rw [← e.1, ← e.2] at c
    have C := hid c
    clear hw1 hk1 b1 X1 h1 c e hV hO hn ha
    go_enter Tryz.func104, Tryz.ntmps104
    go_upto_region 1 with fail
    rw [← HW.out, ← HK.out]
    go_wp2_with fail
    refine C.out.mono ?_
    rintro e w2 ⟨rfl, b2⟩
    have B2 := hid (bel_on B1.out b2)
    clear b2 C
    go_wp2
    go_ret2
    exact ⟨rfl, B2.out⟩
  have z1 : (a.kind == 1) = false := by simpa using h1
  by_cases h2 : a.kind = 2
  · have z2 : (a.kind == 2) = true := by simpa using h2
    have e : V = min n a.num ∧ O = true := by
      rw [hV, hO]; unfold adjO; rw [if_neg h1, if_pos h2]; exact ⟨rfl, rfl⟩
    obtain ⟨rfl, rfl⟩ := e
    clear hw1 hk1 b1 X1 h1 h2 hV hO hn ha
    by_cases h : a.num < n
    · have z3 : decide (a.num < n) = true := decide_eq_true h
      have E := hid (show a.num = min n a.num by omega)
      clear h
      go_enter Tryz.func104, Tryz.ntmps104
      go_upto_region 1 with fail
      rw [← HW.out, ← HK.out]
      go_wp2
      go_ret2
      exact ⟨by rw [← E.out]; rfl, B1.out⟩
    · have z3 : decide (a.num < n) = false := decide_eq_false h
      have E := hid (show n = min n a.num by omega)
      clear h
      go_enter Tryz.func104, Tryz.ntmps104
      go_upto_region 1 with fail
      rw [← HW.out, ← HK.out]
      go_wp2
      go_ret2
      exact ⟨by rw [← E.out]; rfl, B1.out⟩
  have z2 : (a.kind == 2) = false := by simpa using h2
  by_cases h3 : a.kind = 3
  · have z4 : (a.kind == 3) = true := by simpa using h3
    have e : V = max n a.num ∧ O = true := by
      rw [hV, hO]; unfold adjO; rw [if_neg h1, if_neg h2, if_pos h3]; exact ⟨rfl, rfl⟩
    obtain ⟨rfl, rfl⟩ := e
    clear hw1 hk1 b1 X1 h1 h2 h3 hV hO hn ha
    by_cases h : a.num < n
    · have z3 : decide (a.num < n) = true := decide_eq_true h
      have E := hid (show n = max n a.num by omega)
      clear h
      go_enter Tryz.func104, Tryz.ntmps104
      go_upto_region 1 with fail
      rw [← HW.out, ← HK.out]
      go_wp2
      go_ret2
      exact ⟨by rw [← E.out]; rfl, B1.out⟩
    · have z3 : decide (a.num < n) = false := decide_eq_false h
      have E := hid (show a.num = max n a.num by omega)
      clear h
      go_enter Tryz.func104, Tryz.ntmps104
      go_upto_region 1 with fail
      rw [← HW.out, ← HK.out]
      go_wp2
      go_ret2
      exact ⟨by rw [← E.out]; rfl, B1.out⟩
  have z4 : (a.kind == 3) = false := by simpa using h3
  by_cases h4 : a.kind = 4
  · have z5 : (a.kind == 4) = true := by simpa using h4
    have e : V = cut64 (n + a.num) ∧ O = ok64 (n + a.num) := by
      rw [hV, hO]
      unfold adjO
      rw [if_neg h1, if_neg h2, if_neg h3, if_pos h4]
      by_cases k : I64 (n + a.num)
      · rw [ok64_t k, cut64_t k]; exact ⟨rfl, rfl⟩
      · rw [ok64_f k, cut64_f k]; exact ⟨rfl, rfl⟩
    have cO1 := hid (fun (W : World) => R1.of_any n W hn)
    have cO2 := hid (fun (W : World) => R1.of_any a.num W ha)
    have cS := hid (fun (W : World) => R1.add_any n a.num W (by unfold I64 at hn; unfold two127; omega) (by unfold I64 at ha; unfold two127; omega))
    have cI := hid (fun (W : World) => R1.int_any (n + a.num) W)
    rw [← e.1, ← e.2] at cI
    clear hw1 hk1 b1 X1 h1 h2 h3 h4 hV hO hn ha e
    go_enter Tryz.func104, Tryz.ntmps104
    go_upto_region 1 with fail
    rw [← HW.out, ← HK.out]
    go_upto_region 8 with fail
    have r1 := cell_regrown c1
    have qA := fun d os => Calls.regrown_of (cO1.out (grow (redrawn w1 d) os))
    have qB := fun d os => Calls.regrown_of (cO2.out (grow (redrawn w1 d) os))
    have qS := fun d os => Calls.regrown_of (cS.out (grow (redrawn w1 d) os))
    have qI := fun d os => Calls.regrown_of (cI.out (grow (redrawn w1 d) os))
    have B2 := fun d os => hid (bel_on B1.out (below_regrown w1 d os))
    clear cO1 cO2 cS cI
    refine wp_region_quiet_below (by kernel_rfl) (by kernel_rfl) ?_
    repeat (go_big_quiet_step (first | (go_at_call_of 60 (Value.int IntKind.i64 n); exact qA _ _) | (go_at_call_of 60 (Value.int IntKind.i64 a.num); exact qB _ _) | (go_at_call 59; exact qS _ _) | (go_at_call 58; exact qI _ _)))
    refine wpQuiet_nil ?_
    intro _ hw'
    obtain ⟨⟨dq, osq⟩, hw''⟩ := hw'
    subst hw''
    have B3 := B2 dq osq
    clear B2 qA qB qS qI r1
    go_wp2
    go_ret2
    exact ⟨rfl, B3.out⟩
  · have z5 : (a.kind == 4) = false := by simpa using h4
    have e : V = 0 ∧ O = false := by
      rw [hV, hO]; unfold adjO; rw [if_neg h1, if_neg h2, if_neg h3, if_neg h4]; exact ⟨rfl, rfl⟩
    obtain ⟨rfl, rfl⟩ := e
    clear hw1 hk1 b1 X1 h1 h2 h3 h4 hV hO hn ha
    go_enter Tryz.func104, Tryz.ntmps104
    go_upto_region 1 with fail
    rw [← HW.out, ← HK.out]
    go_wp2
    go_ret2
    exact ⟨rfl, B1.out⟩
theorem adj_in {w : World} {b o len cap : Nat} {xs : List Adj} (h : Row tAdj w (some ⟨b, o, none⟩) len cap xs) {j : Nat} {m : Adj} (hj : xs[j]? = some m) :
    w.cell? ⟨b, o + j * 3, none⟩ = some (.int .i64 m.kind) ∧ w.cell? ⟨b, o + j * 3 + 1, none⟩ = some (.int .i64 m.num) ∧ w.cell? ⟨b, o + j * 3 + 2, none⟩ = some (.int .i64 m.mode) ∧ I64 m.num ∧ I64 m.mode := by
  obtain ⟨b', o', e, _, x0, x1, x2, _, x3, x4⟩ := adj_at h hj
  simp only [Option.some.injEq, Addr.mk.injEq, and_true] at e
  obtain ⟨rfl, rfl⟩ := e
  exact ⟨x0, x1, x2, x3, x4⟩
set_option maxHeartbeats 4000000 in
set_option maxRecDepth 100000 in
theorem all_any (n : Int) (xs : List Adj) (ao : Option Addr) (cap : Nat) (w : World) (hx : Row tAdj w ao xs.length cap xs) (hn : I64 n) :
    Calls Tryz.prog 75 #[.int .i64 n, .slice ao xs.length cap] w fun e w' => e = .returned (.tuple #[.int .i64 (oV (adjsO n xs)), .bool (oB (adjsO n xs))]) ∧ Below w.heap.size w w' := by
  obtain ⟨R, hR⟩ : ∃ R, R = adjsO n xs := ⟨_, rfl⟩
  rw [← hR]
  have HX := hid (fun (W : World) (b : Below w.heap.size w W) => hx.on b)
  have tm := hx.hmax
  have tcp := hx.hcap
  have R0 := hid (show R = adjsO n (xs.drop 0) from hR)
  have HN := hid hn
  clear hx hR hn
  go_enter Tryz.func75, Tryz.ntmps75
  go_wp2
  go_loopw [0, 12] (fun v i wr => ∃ (m : Int) (i' : Nat), v = .int .i64 m ∧ i = .int .i64 (i' : Int) ∧ i' ≤ xs.length ∧ Hid (R = adjsO m (xs.drop i')) ∧ Hid (I64 m) ∧ Hid (Below w.heap.size w wr)) (fun _ i _ => xs.length - (intOf i).toNat)
  case atStart => exact ⟨n, 0, rfl, rfl, Nat.zero_le _, R0, HN, hid (Below.refl _ _)⟩
  case round =>
    obtain ⟨m, i', rfl, rfl, hi, hR, hM, hb⟩ := hrel
    clear R0 HN
    by_cases hlt : i' < xs.length
    · obtain ⟨y, hy⟩ : ∃ y, xs[i']? = some y := ⟨_, List.getElem?_eq_getElem hlt⟩
      obtain ⟨ba, oa, ea, -⟩ := adj_at (HX.out _ hb.out) hy
      subst ea
      obtain ⟨y0, y1, y2, y3, y4⟩ := adj_in (HX.out _ hb.out) hy
      obtain ⟨wt, hwt⟩ : ∃ W, W = wr.alloc (.cells ([.int .i64 y.kind, .int .i64 y.num, .int .i64 y.mode] : List Value).toArray 115) := ⟨_, rfl⟩
      obtain ⟨kt, hkt⟩ : ∃ k, k = wr.heap.size := ⟨_, rfl⟩
      have bt2 : Below wr.heap.size wr wt := by rw [hwt]; exact bel_alloc _ _
      have XT : Box wt kt [.int .i64 y.kind, .int .i64 y.num, .int .i64 y.mode] := by rw [hwt, hkt]; exact Box.new _ _ _
      have BT := hid (bel_on hb.out bt2)
      have e0 := XT.cell 0 _ rfl
      have e1 := XT.cell 1 _ rfl
      have e2 := XT.cell 2 _ rfl
      have HWT := hid hwt
      have HKT := hid hkt
      have cO := one_any y m wt hM.out y3 y4
      have hS := hR.out
      rw [adjsO_step hy] at hS
      have HI := hid (fun k (h : adjO y m = some k) => adjO_i64 hM.out y3 h)
      obtain ⟨O, hO⟩ : ∃ O, O = adjO y m := ⟨_, rfl⟩
      rw [← hO] at cO hS HI
      have cO := hid cO
      have HS := hid hS
      clear hwt hkt bt2 XT hb hR hS hO hy y3 y4
      go_upto_region 4 with fail
      rw [← HWT.out, ← HKT.out]
      clear HWT HKT y0 y1 y2
      go_wp2_with fail
      refine cO.out.mono ?_
      rintro e w2 ⟨rfl, b2⟩
      have B2 := hid (bel_on BT.out b2)
      clear b2 cO BT e0 e1 e2
      cases O with
      | none =>
        have E : Hid (R = none) := HS
        rw [show oV none = 0 from rfl, show oB none = false from rfl]
        go_wp2
        go_ret2
        exact ⟨by rw [E.out]; rfl, B2.out⟩
      | some k =>
        have E : Hid (R = adjsO k (xs.drop (i' + 1))) := HS
        have HK : Hid (I64 k) := hid (HI.out k rfl)
        rw [show oV (some k) = k from rfl, show oB (some k) = true from rfl]
        clear HI HS
        go_wp2
        go_roundw
        case rel => exact ⟨k, i' + 1, rfl, by simp, by omega, E, HK, B2⟩
        case measure => simp [intOf]; omega
    · have E := hid (show R = some m by rw [hR.out, List.drop_of_length_le (by omega)]; rfl)
      clear hR
      go_wp2
      go_ret2
      exact ⟨by rw [E.out]; rfl, hb.out⟩
end Go.Proofs.YtjgogpaedaffkaaGreat.R12
/- Plain facts on rows of whole numbers: sums from the left, the least and the greatest one. No program is named here. -/
namespace Go.Proofs.YtjgogpaedaffkaaGreat.P
open Go.RowKit
/-- The elements as cells: what a walk asks. -/
def Cells (w : World) (b off : Nat) (xs : List Int) : Prop := ∀ i, i < xs.length → w.cell? ⟨b, off + i, none⟩ = some (.int .i64 (xs.getD i 0))
theorem Cells.later {w w' : World} {b off : Nat} {xs : List Int} (h : Cells w b off xs) {B : Nat} (hb : Below B w w') (hB : b < B) : Cells w' b off xs :=
  fun i hi => by rw [hb.cell (p := ⟨b, off + i, none⟩) hB]; exact h i hi
def allI64 (xs : List Int) : Prop := ∀ n ∈ xs, I64 n
theorem allI64_get {xs : List Int} (h : allI64 xs) {k : Nat} (hk : k < xs.length) : I64 (xs.getD k 0) := by
  rw [List.getD_eq_getElem?_getD, List.getElem?_eq_getElem hk]; exact h _ (List.getElem_mem hk)
/-- The sum from the left, beginning with t; nought and false, if one goes beyond. -/
def sumTo (t : Int) : List Int → Int × Bool
  | [] => (t, true)
  | x :: r => if ok64 (t + x) = true then sumTo (t + x) r else (0, false)
theorem sumTo_end (t : Int) {xs : List Int} {k : Nat} (h : xs.length ≤ k) : sumTo t (xs.drop k) = (t, true) := by
  rw [List.drop_eq_nil_of_le h]; rfl
theorem drop_step {xs : List Int} {k : Nat} (h : k < xs.length) : xs.drop k = xs.getD k 0 :: xs.drop (k + 1) := by
  rw [List.drop_eq_getElem_cons h, List.getD_eq_getElem?_getD, List.getElem?_eq_getElem h]; rfl
theorem sumTo_yes {t : Int} {xs : List Int} {k : Nat} (h : k < xs.length) (hi : I64 (t + xs.getD k 0)) : sumTo t (xs.drop k) = sumTo (t + xs.getD k 0) (xs.drop (k + 1)) := by
  rw [drop_step h]; simp only [sumTo, if_pos (ok64_t hi)]
theorem sumTo_no {t : Int} {xs : List Int} {k : Nat} (h : k < xs.length) (hi : ¬ I64 (t + xs.getD k 0)) : sumTo t (xs.drop k) = (0, false) := by
  rw [drop_step h]; simp only [sumTo]; rw [if_neg (by rw [ok64_iff]; exact hi)]
/-- The best one so far, and on: by a way of telling what is better. -/
def bestOf (lt : Int → Int → Bool) (m : Int) : List Int → Int
  | [] => m
  | x :: r => bestOf lt (if lt x m = true then x else m) r
def ltB (a b : Int) : Bool := decide (a < b)
def gtB (a b : Int) : Bool := decide (b < a)
theorem bestOf_end (lt : Int → Int → Bool) (m : Int) {xs : List Int} {k : Nat} (h : xs.length ≤ k) : bestOf lt m (xs.drop k) = m := by
  rw [List.drop_eq_nil_of_le h]; rfl
theorem bestOf_yes {lt : Int → Int → Bool} {m : Int} {xs : List Int} {k : Nat} (h : k < xs.length) (hi : lt (xs.getD k 0) m = true) : bestOf lt m (xs.drop k) = bestOf lt (xs.getD k 0) (xs.drop (k + 1)) := by
  rw [drop_step h]; simp only [bestOf, if_pos hi]
theorem bestOf_no {lt : Int → Int → Bool} {m : Int} {xs : List Int} {k : Nat} (h : k < xs.length) (hi : lt (xs.getD k 0) m = false) : bestOf lt m (xs.drop k) = bestOf lt m (xs.drop (k + 1)) := by
  rw [drop_step h]; simp only [bestOf, hi]; rfl
end Go.Proofs.YtjgogpaedaffkaaGreat.P
/- What a basket costs on a day (layer 13), as plain data. No program is named here. -/
namespace Go.Proofs.YtjgogpaedaffkaaGreat.P
open Go.RowKit Mm
def partO (x : Prt) (q : Int) : Option Int := match chargeO x q with
  | some n => adjsO n x.adjusts
  | none => none
def onB (a b d : Int) : Bool := decide (a ≤ d) && decide (d ≤ b)
def qAt (bk : List Int) (i : Int) : Int := bk.getD i.toNat 0
def sumsL (d : Int) : List Mm.Sm → List Int
  | [] => []
  | s :: r => if onB s.a s.b d = true then s.amt :: sumsL d r else sumsL d r
def partsO (d : Int) (bk : List Int) : List Prt → Option (List Int)
  | [] => some []
  | x :: r => if onB x.a x.b d = true then (match partO x (qAt bk x.mt) with
      | some n => (partsO d bk r).map (n :: ·)
      | none => none) else partsO d bk r
def costO (c : Cor) (d : Int) (bk : List Int) : Option Int := match partsO d bk c.parts with
  | some l => if (sumTo 0 (sumsL d c.sums ++ l)).2 = true then some (sumTo 0 (sumsL d c.sums ++ l)).1 else none
  | none => none
def inBk : List Meter → List Int → Bool
  | [], [] => true
  | m :: ms, q :: qs => decide (0 ≤ q) && decide (q ≤ m.max) && inBk ms qs
  | _, _ => false
/-- What Price answers: the amount, and the error's number. -/
def priceV (c : Cor) (d : Int) (bk : List Int) : Int × Int :=
  if goodC c = true then (if (onB c.a c.b d && inBk c.meters bk) = true then (match costO c d bk with
    | some n => (n, 0)
    | none => (0, 2)) else (0, 8)) else (0, 1)
theorem inBk_len : ∀ (ms : List Meter) (bk : List Int), inBk ms bk = true → bk.length = ms.length
  | [], [], _ => rfl
  | m :: ms, q :: qs, h => by
    unfold inBk at h
    rw [Bool.and_eq_true] at h
    rw [List.length_cons, List.length_cons, inBk_len ms qs h.2]
  | [], _ :: _, h => by cases h
  | _ :: _, [], h => by cases h
/-- PriceApart: what a part that holds comes to. -/
def vP (x : Prt) (q : Int) : Int := (partO x q).getD 0
def costR (d : Int) (bk : List Int) : List Prt → Int
  | [] => 0
  | x :: r => (if onB x.a x.b d = true then vP x (qAt bk x.mt) else 0) + costR d bk r
theorem sumTo_sum : ∀ (l : List Int) (t : Int), (sumTo t l).2 = true → (sumTo t l).1 = t + l.sum
  | [], t, _ => by show t = t + 0; omega
  | x :: r, t, h => by
    unfold sumTo at h ⊢
    split at h
    · rename_i k
      rw [if_pos k, sumTo_sum r (t + x) h, List.sum_cons]
      omega
    · cases h
theorem partsO_sum (d : Int) (bk : List Int) : ∀ (l : List Prt) (r : List Int), partsO d bk l = some r → r.sum = costR d bk l
  | [], r, h => by
    have h : some [] = some r := h
    obtain rfl := Option.some.inj h
    rfl
  | x :: l, r, h => by
    unfold partsO at h
    unfold costR
    split at h
    · rename_i k
      rw [if_pos k]
      cases e : partO x (qAt bk x.mt) with
      | none => rw [e] at h; cases h
      | some n =>
        rw [e] at h
        cases e2 : partsO d bk l with
        | none => rw [e2] at h; cases h
        | some r2 =>
          rw [e2] at h
          have h : some (n :: r2) = some r := h
          obtain rfl := Option.some.inj h
          rw [List.sum_cons, partsO_sum d bk l r2 e2]
          unfold vP
          rw [e]
          rfl
    · rename_i k
      rw [if_neg k, partsO_sum d bk l r h]
      omega
theorem costO_sum {c : Cor} {d : Int} {bk : List Int} {n : Int} (h : costO c d bk = some n) : n = (sumsL d c.sums).sum + costR d bk c.parts := by
  unfold costO at h
  cases e : partsO d bk c.parts with
  | none => rw [e] at h; cases h
  | some l =>
    rw [e] at h
    have h : (if (sumTo 0 (sumsL d c.sums ++ l)).2 = true then some (sumTo 0 (sumsL d c.sums ++ l)).1 else none) = some n := h
    split at h
    · rename_i k
      obtain rfl := Option.some.inj h
      rw [sumTo_sum _ 0 k, List.sum_append, partsO_sum d bk c.parts l e]
      omega
    · cases h
/-- Sums over numbers below one. -/
def sumR (f : Nat → Int) : Nat → Int
  | 0 => 0
  | n + 1 => sumR f n + f n
theorem sumR_add (f g : Nat → Int) : ∀ n, sumR (fun i => f i + g i) n = sumR f n + sumR g n
  | 0 => rfl
  | n + 1 => by
    show sumR (fun i => f i + g i) n + (f n + g n) = sumR f n + f n + (sumR g n + g n)
    rw [sumR_add f g n]
    omega
theorem sumR_one (m : Nat) (a : Int) : ∀ n, sumR (fun i => if i = m then a else 0) n = if m < n then a else 0
  | 0 => by rw [if_neg (by omega)]; rfl
  | n + 1 => by
    show sumR (fun i => if i = m then a else 0) n + (if n = m then a else 0) = _
    rw [sumR_one m a n]
    by_cases h : n = m
    · rw [if_neg (by omega), if_pos h, if_pos (by omega)]; omega
    · rw [if_neg h]
      by_cases k : m < n
      · rw [if_pos k, if_pos (by omega)]; omega
      · rw [if_neg k, if_neg (by omega)]; omega
theorem sumR_congr {f g : Nat → Int} : ∀ n, (∀ i, i < n → f i = g i) → sumR f n = sumR g n
  | 0, _ => rfl
  | n + 1, h => by
    show sumR f n + f n = sumR g n + g n
    rw [sumR_congr n fun i hi => h i (by omega), h n (by omega)]
def zeros (n : Nat) : List Int := List.replicate n 0
def onlyAt (bk : List Int) (i : Nat) : List Int := (zeros bk.length).set i (bk.getD i 0)
theorem qAt_zeros (n : Nat) (m : Int) : qAt (zeros n) m = 0 := by
  unfold qAt zeros
  rw [List.getD_eq_getElem?_getD, List.getElem?_replicate]
  split <;> rfl
theorem qAt_one {bk : List Int} {i : Nat} {m : Int} (hl : m.toNat < bk.length) : qAt (onlyAt bk i) m = if i = m.toNat then qAt bk m else 0 := by
  unfold qAt onlyAt zeros
  rw [List.getD_eq_getElem?_getD, List.getElem?_set]
  by_cases h : i = m.toNat
  · rw [if_pos h, if_pos h, h, if_pos (by rw [List.length_replicate]; exact hl)]
    rfl
  · rw [if_neg h, if_neg h, List.getElem?_replicate]
    split <;> rfl
theorem apartR (d : Int) (bk : List Int) : ∀ (l : List Prt), (∀ x ∈ l, 0 ≤ x.mt ∧ x.mt.toNat < bk.length) →
    sumR (fun i => costR d (onlyAt bk i) l - costR d (zeros bk.length) l) bk.length = costR d bk l - costR d (zeros bk.length) l
  | [], _ => by
    have : ∀ n, sumR (fun _ => (0 : Int) - 0) n = 0 := fun n => by
      induction n with
      | zero => rfl
      | succ n ih => show sumR _ n + (0 - 0) = 0; rw [ih]; rfl
    exact this _
  | x :: r, h => by
    obtain ⟨_, h2⟩ := h x (List.mem_cons_self ..)
    have ih := apartR d bk r fun z hz => h z (List.mem_cons_of_mem _ hz)
    have e : ∀ i, costR d (onlyAt bk i) (x :: r) - costR d (zeros bk.length) (x :: r) = (if i = x.mt.toNat then (if onB x.a x.b d = true then vP x (qAt bk x.mt) - vP x 0 else 0) else 0) + (costR d (onlyAt bk i) r - costR d (zeros bk.length) r) := fun i => by
      show (if onB x.a x.b d = true then vP x (qAt (onlyAt bk i) x.mt) else 0) + costR d (onlyAt bk i) r - ((if onB x.a x.b d = true then vP x (qAt (zeros bk.length) x.mt) else 0) + costR d (zeros bk.length) r) = _
      rw [qAt_zeros, qAt_one h2]
      by_cases k : onB x.a x.b d = true
      · rw [if_pos k, if_pos k, if_pos k]
        by_cases j : i = x.mt.toNat
        · rw [if_pos j, if_pos j]; omega
        · rw [if_neg j, if_neg j]; omega
      · rw [if_neg k, if_neg k, if_neg k]
        split <;> omega
    rw [sumR_congr _ fun i _ => e i, sumR_add, sumR_one, if_pos h2, ih]
    show _ = (if onB x.a x.b d = true then vP x (qAt bk x.mt) else 0) + costR d bk r - ((if onB x.a x.b d = true then vP x (qAt (zeros bk.length) x.mt) else 0) + costR d (zeros bk.length) r)
    rw [qAt_zeros]
    split <;> omega
/-- PriceApart. -/
theorem apart {c : Cor} {d : Int} {bk : List Int} {all none' : Int} {n : Nat → Int} (hp : ∀ x ∈ c.parts, 0 ≤ x.mt ∧ x.mt.toNat < bk.length) (h1 : costO c d bk = some all) (h2 : costO c d (zeros bk.length) = some none')
    (h3 : ∀ i, i < bk.length → costO c d (onlyAt bk i) = some (n i)) : none' + sumR (fun i => n i - none') bk.length = all := by
  have e1 := costO_sum h1
  have e2 := costO_sum h2
  have e3 : ∀ i, i < bk.length → n i - none' = costR d (onlyAt bk i) c.parts - costR d (zeros bk.length) c.parts := fun i hi => by
    have := costO_sum (h3 i hi)
    omega
  rw [sumR_congr _ e3, apartR d bk c.parts hp]
  omega
end Go.Proofs.YtjgogpaedaffkaaGreat.P
/- The document's answers for layer 13 (poundageref13): Part. -/
namespace Go.Proofs.YtjgogpaedaffkaaGreat.R13
open Go.RowKit Go.Sort P Mm Md R6 Te Co R10 R11
theorem chargeO_i {x : Prt} (g : GoodT x) {q n : Int} (h : chargeO x q = some n) : I64 n := by
  unfold chargeO at h
  cases e : microO x q with
  | none => rw [e] at h; cases h
  | some m =>
    rw [e] at h
    have h : some (rnd m 1000000 x.mode) = some n := h
    obtain rfl := Option.some.inj h
    exact (div_ok (microO_i e) (gt_mode g)).2.2
set_option maxHeartbeats 4000000 in
set_option maxRecDepth 100000 in
theorem part_any (x : Prt) (ta : Option Addr) (tc : Nat) (aa : Option Addr) (ac : Nat) (q : Int) (w : World) (ht : Row tTier w ta x.tiers.length tc x.tiers) (ha : Row tAdj w aa x.adjusts.length ac x.adjusts) (hq : I64 q) (g : GoodT x) :
    Calls Tryz.prog 45 #[.agg #[.int .i64 x.mt, .int .i64 x.a, .int .i64 x.b, .int .i64 x.allowance, .int .i64 x.block, .int .i64 x.kind, .slice ta x.tiers.length tc, .int .i64 x.mode, .slice aa x.adjusts.length ac], .int .i64 q] w fun e w' => e = .returned (.tuple #[.int .i64 (oV (partO x q)), .bool (oB (partO x q))]) ∧ Below w.heap.size w w' := by
  obtain ⟨w1, hw1⟩ : ∃ W, W = w.alloc (.cells ([.int .i64 x.mt, .int .i64 x.a, .int .i64 x.b, .int .i64 x.allowance, .int .i64 x.block, .int .i64 x.kind, .slice ta x.tiers.length tc, .int .i64 x.mode, .slice aa x.adjusts.length ac] : List Value).toArray 58) := ⟨_, rfl⟩
  obtain ⟨k1, hk1⟩ : ∃ k, k = w.heap.size := ⟨_, rfl⟩
  have b1 : Below w.heap.size w w1 := by rw [hw1]; exact bel_alloc _ _
  have X1 : Box w1 k1 [.int .i64 x.mt, .int .i64 x.a, .int .i64 x.b, .int .i64 x.allowance, .int .i64 x.block, .int .i64 x.kind, .slice ta x.tiers.length tc, .int .i64 x.mode, .slice aa x.adjusts.length ac] := by rw [hw1, hk1]; exact Box.new w _ 58
  have X := hid (fun (W : World) (b : Below w1.heap.size w1 W) => (⟨X1.on b, bel_on b1 b⟩ : Box W k1 [.int .i64 x.mt, .int .i64 x.a, .int .i64 x.b, .int .i64 x.allowance, .int .i64 x.block, .int .i64 x.kind, .slice ta x.tiers.length tc, .int .i64 x.mode, .slice aa x.adjusts.length ac] ∧ Below w.heap.size w W))
  have c0 := X1.cell 0 _ rfl; have c1 := X1.cell 1 _ rfl; have c2 := X1.cell 2 _ rfl; have c3 := X1.cell 3 _ rfl; have c4 := X1.cell 4 _ rfl; have c5 := X1.cell 5 _ rfl; have c6 := X1.cell 6 _ rfl; have c7 := X1.cell 7 _ rfl; have c8 := X1.cell 8 _ rfl
  have l1 := X1.lt
  have HW := hid hw1
  have HK := hid hk1
  have cM := charge_any x ta tc aa ac q w1 (ht.on b1) hq g
  have MI := hid (fun n (h : chargeO x q = some n) => chargeO_i g h)
  have HA := hid (fun (W : World) (b : Below w1.heap.size w1 W) => ha.on (bel_on b1 b))
  have EC : partO x q = match chargeO x q with
      | some n => adjsO n x.adjusts
      | none => none := rfl
  rw [EC]
  obtain ⟨M, hM⟩ : ∃ M, M = chargeO x q := ⟨_, rfl⟩
  rw [← hM] at cM MI ⊢
  have cM := hid cM
  clear hw1 hk1 b1 X1 ht hq g hM EC ha
  cases M with
  | none =>
    go_enter Tryz.func45, Tryz.ntmps45
    go_upto_region 1 with fail
    rw [← HW.out, ← HK.out]
    go_wp2_with fail
    refine cM.out.mono ?_
    rintro e w2 ⟨rfl, b2⟩
    have B2 := hid (X.out w2 b2).2
    clear b2 cM c0 c1 c2 c3 c4 c5 c6 c7 c8 l1
    rw [show oV none = 0 from rfl, show oB none = false from rfl]
    go_wp2
    go_ret2
    exact ⟨rfl, B2.out⟩
  | some n =>
    show Calls _ _ _ _ fun e w' => e = .returned (.tuple #[.int .i64 (oV (adjsO n x.adjusts)), .bool (oB (adjsO n x.adjusts))]) ∧ Below w.heap.size w w'
    obtain ⟨O, hO⟩ : ∃ O, O = adjsO n x.adjusts := ⟨_, rfl⟩
    have cD := hid (fun (W : World) (b : Below w1.heap.size w1 W) => by
      have := R12.all_any n x.adjusts aa ac W (HA.out W b) (MI.out n rfl)
      rw [← hO] at this
      exact this)
    rw [← hO]
    clear hO
    go_enter Tryz.func45, Tryz.ntmps45
    go_upto_region 1 with fail
    rw [← HW.out, ← HK.out]
    go_wp2_with fail
    refine cM.out.mono ?_
    rintro e w2 ⟨rfl, b2⟩
    have B2 := hid b2
    have c8 := (X.out w2 b2).1.cell 8 _ rfl
    have l1 := (X.out w2 b2).1.lt
    clear b2 cM c0 c1 c2 c3 c4 c5 c6 c7
    rw [show oV (some n) = n from rfl, show oB (some n) = true from rfl]
    go_wp2_with fail
    refine (cD.out w2 B2.out).mono ?_
    rintro e w3 ⟨rfl, b3⟩
    have B3 := hid (X.out w3 (bel_on B2.out b3)).2
    clear b3 cD
    go_wp2
    go_ret2
    exact ⟨rfl, B3.out⟩
end Go.Proofs.YtjgogpaedaffkaaGreat.R13
/- Blocks of three cells, behind calls that leave them alone: no program is named here. -/
namespace Go.Proofs.YtjgogpaedaffkaaGreat.P
open Go.RowKit
/-- Three cells of a block, and that they may be written. -/
structure Lies3 (w : World) (k : Nat) (a b c : Value) : Prop where
  lt : k < w.heap.size
  c0 : w.cell? ⟨k, 0, none⟩ = some a
  c1 : w.cell? ⟨k, 1, none⟩ = some b
  c2 : w.cell? ⟨k, 2, none⟩ = some c
  f0 : w.frozen? ⟨k, 0, none⟩ = false
  f1 : w.frozen? ⟨k, 1, none⟩ = false
  f2 : w.frozen? ⟨k, 2, none⟩ = false
theorem Lies3.on {w W : World} {k : Nat} {a b c : Value} (h : Lies3 w k a b c) (hb : Below w.heap.size w W) : Lies3 W k a b c := by
  obtain ⟨h1, h2, h3, h4, h5, h6, h7⟩ := h
  exact ⟨Nat.lt_of_lt_of_le h1 hb.size, by rw [hb.cell h1]; exact h2, by rw [hb.cell h1]; exact h3, by rw [hb.cell h1]; exact h4,
    by rw [hb.frozen h1]; exact h5, by rw [hb.frozen h1]; exact h6, by rw [hb.frozen h1]; exact h7⟩
theorem Lies3.new {w : World} {k : Nat} {a b c : Value} {t : TypeId} (hk : w.heap.size = k) : Lies3 (w.alloc (.cells #[a, b, c] t)) k a b c := by
  subst hk
  refine ⟨by simp, ?_, ?_, ?_, ?_, ?_, ?_⟩ <;> go_simp
theorem Lies3.later {w w2 : World} {k : Nat} {a b c : Value} {t : TypeId} (hb : Below (w.alloc (.cells #[a, b, c] t)).heap.size (w.alloc (.cells #[a, b, c] t)) w2) (hk : w.heap.size = k) : Lies3 w2 k a b c := (Lies3.new hk).on hb
theorem Lies3.alloc {w : World} {k : Nat} {a b c : Value} (h : Lies3 w k a b c) (o : Obj) : Lies3 (w.alloc o) k a b c := h.on ((Below.refl _ _).alloc (Nat.le_refl _) _)
theorem Lies3.drewN {w : World} {k : Nat} {a b c : Value} (h : Lies3 w k a b c) (n : Nat) : Lies3 (w.drewN n) k a b c := by
  refine h.on ⟨rfl, rfl, rfl, Nat.le_refl _, fun _ _ => rfl⟩
/-- A store into another block. -/
theorem Lies3.other {w : World} {k : Nat} {a b c : Value} (h : Lies3 w k a b c) {j o : Nat} (hj : k ≠ j) (v : Value) : Lies3 (w.setCell ⟨j, o, none⟩ v) k a b c := by
  obtain ⟨h1, h2, h3, h4, h5, h6, h7⟩ := h
  have e := Below.heap_setCell w ⟨j, o, none⟩ v k hj
  refine ⟨?_, ?_, ?_, ?_, ?_, ?_, ?_⟩
  · simpa using h1
  · rw [World.cell?_of_block (w := w) e]; exact h2
  · rw [World.cell?_of_block (w := w) e]; exact h3
  · rw [World.cell?_of_block (w := w) e]; exact h4
  · rw [World.frozen?_of_block (w := w) e]; exact h5
  · rw [World.frozen?_of_block (w := w) e]; exact h6
  · rw [World.frozen?_of_block (w := w) e]; exact h7
end Go.Proofs.YtjgogpaedaffkaaGreat.P

/- Package check, walked: bare, most. -/
import Derived.Test.YtnhhhnngocdagaaJCk2
namespace Go.Proofs.Ytnhhhnngocdagaa.Cc
open Go.RowKit Go.Sort P Mm Md R6 L06 R9
theorem up_qty {mx al bl : Int} (h0 : 0 < bl) (hb : bl ≤ 1000000) (hm : mx - al ≤ 2000) : Rd.upb (max 0 (mx - al)) bl = true ∧ Rd.upn (max 0 (mx - al)) bl = qty mx al bl := by
  obtain ⟨a, ha⟩ : ∃ a, a = max 0 (mx - al) := ⟨_, rfl⟩
  rw [← ha]
  have a0 : 0 ≤ a := by omega
  have a1 : a ≤ 2000 := by omega
  obtain ⟨K, hK⟩ : ∃ K, K = rnd a bl 1 := ⟨_, rfl⟩
  have e := Int.mul_ediv_add_emod a bl
  have q0 : 0 ≤ a / bl := Int.ediv_nonneg a0 (by omega)
  have r0 := Int.emod_nonneg a (show bl ≠ 0 by omega)
  have r1 := Int.emod_lt_of_pos a h0
  have k1 : K = a / bl + (if 0 < a % bl then 1 else 0) := by
    rw [hK]
    unfold rnd
    rw [rup1]
    by_cases hr : 0 < a % bl <;> simp [hr]
  obtain ⟨q, hq⟩ : ∃ q, q = a / bl := ⟨_, rfl⟩
  obtain ⟨r, hr⟩ : ∃ r, r = a % bl := ⟨_, rfl⟩
  rw [← hq] at e q0 k1
  rw [← hr] at e r0 r1 k1
  obtain ⟨pq, hpq⟩ : ∃ z, z = bl * q := ⟨_, rfl⟩
  rw [← hpq] at e
  have qa : q ≤ pq := by rw [hpq]; have := Int.mul_le_mul_of_nonneg_right (show 1 ≤ bl by omega) q0; omega
  have kb : K * bl = if 0 < r then pq + bl else pq := by
    rw [k1]
    split
    · rw [Int.add_mul, Int.one_mul, hpq, Int.mul_comm]
    · rw [Int.add_zero, hpq, Int.mul_comm]
  have K0 : 0 ≤ K := by rw [k1]; split <;> omega
  have K1 : K ≤ 2001 := by rw [k1]; split <;> omega
  have kz : K = 0 → a = 0 := by
    intro hh
    rw [k1] at hh
    by_cases hr : 0 < r
    · rw [if_pos hr] at hh; omega
    · rw [if_neg hr, Int.add_zero] at hh
      have : pq = 0 := by rw [hpq, hh, Int.mul_zero]
      omega
  have B0 : 0 ≤ K * bl := by rw [kb]; split <;> omega
  have B1 : K * bl ≤ 1100000 := by rw [kb]; split <;> omega
  have B2 : a ≤ K * bl := by rw [kb]; split <;> omega
  have B3 : 0 < a → K * bl - bl < a := by
    intro _
    rw [kb]
    by_cases hh : 0 < r
    · rw [if_pos hh]; omega
    · rw [if_neg hh]; omega
  have g1 : goodm 1 = true := by decide
  have M1 : mdn a bl 1 = K := by rw [mdn_good h0 g1, ← hK, cut64_t (by unfold I64; omega)]
  have M2 : mdb a bl 1 = true := by rw [mdb_good h0 g1, ← hK, ok64_t (by unfold I64; omega)]
  have I : I64 (K * bl) := by unfold I64; omega
  unfold Rd.upb Rd.upn
  rw [M1, M2, ok64_t I, if_pos rfl, cut64_t I]
  refine ⟨rfl, ?_⟩
  have := qty_count (mx := mx) (al := al) (bl := bl) (k := K.toNat) h0 (by rw [Int.toNat_of_nonneg K0]; omega) (by
    rw [Int.toNat_of_nonneg K0]
    by_cases hz : K = 0
    · left; omega
    · right
      have ap : 0 < a := by
        rcases Int.lt_or_eq_of_le a0 with hh | hh
        · exact hh
        · exfalso
          have : q = 0 := by
            have : pq + r = 0 := by omega
            omega
          rw [k1] at hz
          have : ¬ 0 < r := by omega
          rw [if_neg this] at hz
          omega
      have := B3 ap
      omega)
  rw [this, Int.toNat_of_nonneg K0]
/-- What a charge comes to ahead of its adjustments. -/
def bareO (c : Charge) (mx : Int) : Option Int := lim (mdn (topRate c.tiers * qty mx c.allowance c.block) 1000000 1) (mdb (topRate c.tiers * qty mx c.allowance c.block) 1000000 1)
set_option maxHeartbeats 8000000 in
set_option maxRecDepth 100000 in
theorem bare_any (p : Plan) (ma : Option Addr) (mc : Nat) (fa : Option Addr) (fc : Nat) (ca : Option Addr) (cc : Nat) (c : Charge) (ta : Option Addr) (tc : Nat) (aa : Option Addr) (ac : Nat) (k : Nat) (m : Meter) (w : World)
    (hp : PlanLies w (planC p ma mc fa fc ca cc) p ma mc fa fc ca cc) (hc : ChargeLies w (chargeC c ta tc aa ac) c ta tc aa ac) (g : ChOk c) (hb0 : c.block ≠ 0) (hk : meterIx p.meters c.meter = some k) (htm : p.meters[k]? = some m) (hm : NumOk m.max 2000) (hl : p.meters.length ≤ 100000) :
    Calls Try.prog 45 #[.agg #[.string p.name, .string p.cur, .int .i64 p.a.y, .int .i64 p.a.m, .int .i64 p.a.d, .int .i64 p.b.y, .int .i64 p.b.m, .int .i64 p.b.d, .slice ma p.meters.length mc, .slice fa p.fees.length fc, .slice ca p.charges.length cc, .int .i64 p.line, .int .i64 p.col], .agg #[.string c.meter, .bool c.win.has, .int .i64 c.win.a.y, .int .i64 c.win.a.m, .int .i64 c.win.a.d, .int .i64 c.win.b.y, .int .i64 c.win.b.m, .int .i64 c.win.b.d, .int .i64 c.allowance, .int .i64 c.block, .int .i64 c.kind, .slice ta c.tiers.length tc, .int .i64 c.mode, .slice aa c.adjusts.length ac, .int .i64 c.line, .int .i64 c.col]] w fun e w' => e = .returned (.tuple #[.int .i64 ((bareO c m.max).getD 0), .bool (bareO c m.max).isSome]) ∧ Below w.heap.size w w' := by
  obtain ⟨w1, hw1⟩ : ∃ W, W = w.alloc (.cells [.string p.name, .string p.cur, .int .i64 p.a.y, .int .i64 p.a.m, .int .i64 p.a.d, .int .i64 p.b.y, .int .i64 p.b.m, .int .i64 p.b.d, .slice ma p.meters.length mc, .slice fa p.fees.length fc, .slice ca p.charges.length cc, .int .i64 p.line, .int .i64 p.col].toArray 29) := ⟨_, rfl⟩
  obtain ⟨k1, hk1⟩ : ∃ k, k = w.heap.size := ⟨_, rfl⟩
  have X1 : Box w1 k1 [.string p.name, .string p.cur, .int .i64 p.a.y, .int .i64 p.a.m, .int .i64 p.a.d, .int .i64 p.b.y, .int .i64 p.b.m, .int .i64 p.b.d, .slice ma p.meters.length mc, .slice fa p.fees.length fc, .slice ca p.charges.length cc, .int .i64 p.line, .int .i64 p.col] := by rw [hw1, hk1]; exact Box.new _ _ _
  have b1 : Below w.heap.size w w1 := by rw [hw1]; exact bel_alloc _ _
  obtain ⟨w2, hw2⟩ : ∃ W, W = w1.alloc (.cells [.string c.meter, .bool c.win.has, .int .i64 c.win.a.y, .int .i64 c.win.a.m, .int .i64 c.win.a.d, .int .i64 c.win.b.y, .int .i64 c.win.b.m, .int .i64 c.win.b.d, .int .i64 c.allowance, .int .i64 c.block, .int .i64 c.kind, .slice ta c.tiers.length tc, .int .i64 c.mode, .slice aa c.adjusts.length ac, .int .i64 c.line, .int .i64 c.col].toArray 58) := ⟨_, rfl⟩
  obtain ⟨k2, hk2⟩ : ∃ k, k = w1.heap.size := ⟨_, rfl⟩
  have X2 : Box w2 k2 [.string c.meter, .bool c.win.has, .int .i64 c.win.a.y, .int .i64 c.win.a.m, .int .i64 c.win.a.d, .int .i64 c.win.b.y, .int .i64 c.win.b.m, .int .i64 c.win.b.d, .int .i64 c.allowance, .int .i64 c.block, .int .i64 c.kind, .slice ta c.tiers.length tc, .int .i64 c.mode, .slice aa c.adjusts.length ac, .int .i64 c.line, .int .i64 c.col] := by rw [hw2, hk2]; exact Box.new _ _ _
  have b2 : Below w1.heap.size w1 w2 := by rw [hw2]; exact bel_alloc _ _
  have hk3 : k2 = w.heap.size + 1 := by rw [hk2, hw1]; simp
  have X := hid (fun (W : World) (bw : Below w2.heap.size w2 W) => (⟨(X1.on b2).on bw, X2.on bw, hp.on (bel_on (bel_on b1 b2) bw), ch_on hc (bel_on (bel_on b1 b2) bw), bel_on (bel_on b1 b2) bw⟩ : Box W k1 _ ∧ Box W k2 _ ∧ PlanLies W _ p ma mc fa fc ca cc ∧ ChargeLies W _ c ta tc aa ac ∧ Below w.heap.size w W))
  obtain ⟨nM, hnM⟩ : ∃ n, n = p.meters.length := ⟨_, rfl⟩
  have km : k < nM := by rw [hnM]; exact (List.getElem?_eq_some_iff.1 htm).1
  have u1 : nM ≤ mc := by rw [hnM]; exact hp.meters.hcap
  have u2 : nM ≤ 100000 := by rw [hnM]; exact hl
  have MK : mix p.meters c.meter = (k : Int) := mix_some.2 hk
  have cM := meter4 p c.meter ma mc fa fc ca cc w2 (hp.on (bel_on b1 b2))
  rw [MK] at cM
  obtain ⟨al, hal⟩ : ∃ al, al = c.allowance := ⟨_, rfl⟩
  obtain ⟨bl, hbl⟩ : ∃ bl, bl = c.block := ⟨_, rfl⟩
  obtain ⟨mx, hmx⟩ : ∃ x, x = m.max := ⟨_, rfl⟩
  obtain ⟨nT, hnT⟩ : ∃ n, n = c.tiers.length := ⟨_, rfl⟩
  have a0 : 0 ≤ al := by rw [hal]; exact g.allow.1
  have a1 : al ≤ 1000000 := by rw [hal]; exact g.allow.2
  have l0 : 0 < bl := by have := g.block.1; rw [hbl]; omega
  have l1 : bl ≤ 1000000 := by rw [hbl]; exact g.block.2
  have m0 : 0 ≤ mx := by rw [hmx]; exact hm.1
  have m1 : mx ≤ 2000 := by rw [hmx]; exact hm.2
  obtain ⟨UQ1, UQ2⟩ := up_qty (mx := mx) (al := al) l0 l1 (by omega)
  obtain ⟨q, hq⟩ : ∃ q, q = qty mx al bl := ⟨_, rfl⟩
  have q0 : 0 ≤ q := by rw [hq]; exact qty_nn (by omega)
  have q1 : q ≤ 9223372036854775807 := by rw [hq, ← UQ2]; unfold Rd.upn; split; exact (i64_cut _).2; decide
  have cU := hid (fun (W : World) => (Rd.up_any (max 0 (mx - al)) bl W (by unfold I64; omega) (by unfold I64; omega)).mono (fun e w' h => (⟨h.1, by obtain ⟨n, hn⟩ := h.2; rw [hn]; exact bel_drewN _ _⟩ : e = .returned (.tuple #[.int .i64 (Rd.upn (max 0 (mx - al)) bl), .bool (Rd.upb (max 0 (mx - al)) bl)]) ∧ Below W.heap.size W w')))
  rw [UQ1, UQ2, ← hq] at cU
  have cG := hid (fun (W : World) (bw : Below w2.heap.size w2 W) => greatest_any c.tiers ta tc W (ch_on hc (bel_on (bel_on b1 b2) bw)).tiers)
  obtain ⟨tr, htr⟩ : ∃ x, x = topRate c.tiers := ⟨_, rfl⟩
  have tr0 := top_i64 (rates_of g) c.tiers.length
  rw [List.take_length, ← htr] at tr0
  rw [← hnT, ← htr] at cG
  have cD := hid (fun (W : World) => Rd.muldiv_any tr q 1000000 1 W (by unfold I64; omega) (by unfold I64; omega) (by unfold I64; omega))
  obtain ⟨N, hN⟩ : ∃ N, N = mdn (tr * q) 1000000 1 := ⟨_, rfl⟩
  obtain ⟨K, hK⟩ : ∃ N, N = mdb (tr * q) 1000000 1 := ⟨_, rfl⟩
  have BO : bareO c m.max = lim N K := by unfold bareO; rw [hN, hK, htr, hq, hal, hbl, hmx]
  rw [← hN, ← hK] at cD
  rw [BO]
  obtain ⟨O, hO⟩ : ∃ O, O = lim N K := ⟨_, rfl⟩
  have cB := hid (fun (W : World) => below_any N K W)
  rw [← hO] at cB ⊢
  have RP := hid (range_of (X.out w2 (Below.refl _ _)).1.cell)
  have d0 := X2.cell 0 _ rfl
  have HK3 := hid hk3
  have HK1 := hid hk1
  have HW := hid (show w2 = (w.alloc (.cells [.string p.name, .string p.cur, .int .i64 p.a.y, .int .i64 p.a.m, .int .i64 p.a.d, .int .i64 p.b.y, .int .i64 p.b.m, .int .i64 p.b.d, .slice ma p.meters.length mc, .slice fa p.fees.length fc, .slice ca p.charges.length cc, .int .i64 p.line, .int .i64 p.col].toArray 29)).alloc (.cells [.string c.meter, .bool c.win.has, .int .i64 c.win.a.y, .int .i64 c.win.a.m, .int .i64 c.win.a.d, .int .i64 c.win.b.y, .int .i64 c.win.b.m, .int .i64 c.win.b.d, .int .i64 c.allowance, .int .i64 c.block, .int .i64 c.kind, .slice ta c.tiers.length tc, .int .i64 c.mode, .slice aa c.adjusts.length ac, .int .i64 c.line, .int .i64 c.col].toArray 58) by rw [hw2, hw1])
  have HTM := hid htm
  have HNM := hid hnM
  have HAL := hid hal
  have HBL := hid hbl
  have HMX := hid hmx
  have HNT := hid hnT
  obtain ⟨XV, hXV⟩ : ∃ x, x = O.getD 0 := ⟨_, rfl⟩
  obtain ⟨XB, hXB⟩ : ∃ x, x = O.isSome := ⟨_, rfl⟩
  rw [← hXV, ← hXB] at cB ⊢
  clear hXV hXB hN hK BO hO htr hq UQ1 UQ2 hnM hal hbl hmx hnT MK hk htm hm hl hb0 g hp hc X1 X2 b1 b2 hw1 hw2 hk1 hk2 hk3
  go_enter Try.func45, Try.ntmps45
  go_upto_region 1 with fail
  rw [← HW.out, ← HK3.out, ← HK1.out]
  clear HW HK1 HK3
  go_wp2_with (first | (with_reducible refine wpList_load_mid (op := Oper.mk (some 9) (Op.load 29 (Operand.tmp 2)) _ _ _ _) ?_ 29 (.tmp 2) ?_ k1 0 ?_ [.string p.name, .string p.cur, .int .i64 p.a.y, .int .i64 p.a.m, .int .i64 p.a.d, .int .i64 p.b.y, .int .i64 p.b.m, .int .i64 p.b.d, .slice ma p.meters.length mc, .slice fa p.fees.length fc, .slice ca p.charges.length cc, .int .i64 p.line, .int .i64 p.col] _ RP.out Try.underlying29 ?_ ?_ ?_; rfl; rfl; go_simp; rfl; kernel_rfl) | fail)
  refine cM.mono ?_
  rintro e w3 ⟨rfl, b3⟩
  have B3 := hid b3
  clear b3 cM d0 RP
  obtain ⟨Y1, Y2, LP, _, _⟩ := X.out w3 B3.out
  obtain ⟨b, o, e, lb, y0, y1, y2, y3, y4, _⟩ := meter_at LP.meters HTM.out
  have f8 := cell_regrown (Y1.cell 8 _ rfl)
  rw [← HNM.out] at f8
  rw [← HMX.out] at y2
  have fm := cell_regrown y2
  have c8 := cell_regrown (Y2.cell 8 _ rfl)
  have c9 := cell_regrown (Y2.cell 9 _ rfl)
  rw [← HAL.out] at c8
  rw [← HBL.out] at c9
  have qU := fun d os => Calls.regrown_of (cU.out (grow (redrawn w3 d) os))
  clear Y1 Y2 LP y0 y1 y2 y3 y4 cU
  subst e
  go_upto_region 4 with fail
  refine wp_region_quiet_below (by kernel_rfl) (by kernel_rfl) ?_
  repeat (go_big_quiet_step (first | (go_at_call 60; exact qU _ _)))
  refine wpQuiet_nil ?_
  intro w4 hw'
  obtain ⟨⟨dq, osq⟩, hw''⟩ := hw'
  have B4 : Hid (Below w2.heap.size w2 w4) := hid (by subst hw''; exact bel_on B3.out (below_regrown w3 dq osq))
  clear hw'' qU f8 fm c8 c9 B3
  obtain ⟨Y1, Y2, LP, _, _⟩ := X.out w4 B4.out
  have c11 := Y2.cell 11 _ rfl
  rw [← HNT.out] at c11
  clear Y1 Y2 LP
  go_wp2_with fail
  refine (cG.out w4 B4.out).mono ?_
  rintro e w5 ⟨rfl, b5⟩
  have B5 := hid (X.out _ (bel_on B4.out b5)).2.2.2.2
  clear b5 c11 cG B4
  go_wp2_with fail
  refine (cD.out w5).mono ?_
  rintro e w6 ⟨rfl, dd, rfl⟩
  have B6 := hid (bel_on B5.out (bel_drewN w5 dd))
  clear B5 cD
  go_wp2_with fail
  refine (cB.out _).mono ?_
  rintro e w7 ⟨rfl, rfl⟩
  clear cB
  go_wp2
  go_ret2
  exact ⟨rfl, B6.out⟩
end Go.Proofs.Ytnhhhnngocdagaa.Cc
/- Package check, walked: most, Bound. -/
namespace Go.Proofs.Ytnhhhnngocdagaa.Cc
open Go.RowKit Go.Sort P Mm Md R6 L06 R9
theorem lim_i64 {v : Int} {k : Bool} {n : Int} (h : I64 v) (e : lim v k = some n) : I64 n ∧ n < 1152921504606846976 := by
  obtain ⟨_, h1, rfl⟩ := lim_some e
  exact ⟨h, h1⟩
set_option maxHeartbeats 8000000 in
set_option maxRecDepth 100000 in
theorem most_any (p : Plan) (ma : Option Addr) (mc : Nat) (fa : Option Addr) (fc : Nat) (ca : Option Addr) (cc : Nat) (c : Charge) (ta : Option Addr) (tc : Nat) (aa : Option Addr) (ac : Nat) (k : Nat) (m : Meter) (w : World)
    (hp : PlanLies w (planC p ma mc fa fc ca cc) p ma mc fa fc ca cc) (hc : ChargeLies w (chargeC c ta tc aa ac) c ta tc aa ac) (g : ChOk c) (hb0 : c.block ≠ 0) (hk : meterIx p.meters c.meter = some k) (htm : p.meters[k]? = some m) (hm : NumOk m.max 2000) (hl : p.meters.length ≤ 100000) (hq : c.adjusts.length ≤ 100000) :
    Calls Try.prog 29 #[.agg #[.string p.name, .string p.cur, .int .i64 p.a.y, .int .i64 p.a.m, .int .i64 p.a.d, .int .i64 p.b.y, .int .i64 p.b.m, .int .i64 p.b.d, .slice ma p.meters.length mc, .slice fa p.fees.length fc, .slice ca p.charges.length cc, .int .i64 p.line, .int .i64 p.col], .agg #[.string c.meter, .bool c.win.has, .int .i64 c.win.a.y, .int .i64 c.win.a.m, .int .i64 c.win.a.d, .int .i64 c.win.b.y, .int .i64 c.win.b.m, .int .i64 c.win.b.d, .int .i64 c.allowance, .int .i64 c.block, .int .i64 c.kind, .slice ta c.tiers.length tc, .int .i64 c.mode, .slice aa c.adjusts.length ac, .int .i64 c.line, .int .i64 c.col]] w fun e w' => e = .returned (.tuple #[.int .i64 ((mostOf c m.max).getD 0), .bool (mostOf c m.max).isSome]) ∧ Below w.heap.size w w' := by
  obtain ⟨w1, hw1⟩ : ∃ W, W = w.alloc (.cells [.string p.name, .string p.cur, .int .i64 p.a.y, .int .i64 p.a.m, .int .i64 p.a.d, .int .i64 p.b.y, .int .i64 p.b.m, .int .i64 p.b.d, .slice ma p.meters.length mc, .slice fa p.fees.length fc, .slice ca p.charges.length cc, .int .i64 p.line, .int .i64 p.col].toArray 29) := ⟨_, rfl⟩
  obtain ⟨k1, hk1⟩ : ∃ k, k = w.heap.size := ⟨_, rfl⟩
  have X1 : Box w1 k1 [.string p.name, .string p.cur, .int .i64 p.a.y, .int .i64 p.a.m, .int .i64 p.a.d, .int .i64 p.b.y, .int .i64 p.b.m, .int .i64 p.b.d, .slice ma p.meters.length mc, .slice fa p.fees.length fc, .slice ca p.charges.length cc, .int .i64 p.line, .int .i64 p.col] := by rw [hw1, hk1]; exact Box.new _ _ _
  have b1 : Below w.heap.size w w1 := by rw [hw1]; exact bel_alloc _ _
  obtain ⟨w2, hw2⟩ : ∃ W, W = w1.alloc (.cells [.string c.meter, .bool c.win.has, .int .i64 c.win.a.y, .int .i64 c.win.a.m, .int .i64 c.win.a.d, .int .i64 c.win.b.y, .int .i64 c.win.b.m, .int .i64 c.win.b.d, .int .i64 c.allowance, .int .i64 c.block, .int .i64 c.kind, .slice ta c.tiers.length tc, .int .i64 c.mode, .slice aa c.adjusts.length ac, .int .i64 c.line, .int .i64 c.col].toArray 58) := ⟨_, rfl⟩
  obtain ⟨k2, hk2⟩ : ∃ k, k = w1.heap.size := ⟨_, rfl⟩
  have X2 : Box w2 k2 [.string c.meter, .bool c.win.has, .int .i64 c.win.a.y, .int .i64 c.win.a.m, .int .i64 c.win.a.d, .int .i64 c.win.b.y, .int .i64 c.win.b.m, .int .i64 c.win.b.d, .int .i64 c.allowance, .int .i64 c.block, .int .i64 c.kind, .slice ta c.tiers.length tc, .int .i64 c.mode, .slice aa c.adjusts.length ac, .int .i64 c.line, .int .i64 c.col] := by rw [hw2, hk2]; exact Box.new _ _ _
  have b2 : Below w1.heap.size w1 w2 := by rw [hw2]; exact bel_alloc _ _
  have hk3 : k2 = w.heap.size + 1 := by rw [hk2, hw1]; simp
  obtain ⟨nA, hnA⟩ : ∃ n, n = c.adjusts.length := ⟨_, rfl⟩
  have qA : nA ≤ 100000 := by rw [hnA]; exact hq
  have uA : nA ≤ ac := by rw [hnA]; exact hc.adjusts.hcap
  have X := hid (fun (W : World) (bw : Below w2.heap.size w2 W) => (⟨(X1.on b2).on bw, X2.on bw, ch_on hc (bel_on (bel_on b1 b2) bw), bel_on (bel_on b1 b2) bw⟩ : Box W k1 _ ∧ Box W k2 _ ∧ ChargeLies W _ c ta tc aa ac ∧ Below w.heap.size w W))
  have cB0 := bare_any p ma mc fa fc ca cc c ta tc aa ac k m w2 (hp.on (bel_on b1 b2)) (ch_on hc (bel_on b1 b2)) g hb0 hk htm hm hl
  obtain ⟨O, hO⟩ : ∃ O, O = bareO c m.max := ⟨_, rfl⟩
  obtain ⟨M, hM⟩ : ∃ M, M = mostOf c m.max := ⟨_, rfl⟩
  have HM : Hid (M = O.bind fun n => adjAll n c.adjusts) := hid (by rw [hM, hO]; rfl)
  have HO : Hid (∀ n, O = some n → I64 n ∧ n < 1152921504606846976) := hid (fun n e => lim_i64 (i64_mul _ _ _) (by rw [← e, hO]; rfl))
  rw [← hO] at cB0
  rw [← hM]
  have RP := hid (range_of (X.out w2 (Below.refl _ _)).1.cell)
  have RC := hid (range_of (X.out w2 (Below.refl _ _)).2.1.cell)
  have HK3 := hid hk3
  have HK1 := hid hk1
  have HW := hid (show w2 = (w.alloc (.cells [.string p.name, .string p.cur, .int .i64 p.a.y, .int .i64 p.a.m, .int .i64 p.a.d, .int .i64 p.b.y, .int .i64 p.b.m, .int .i64 p.b.d, .slice ma p.meters.length mc, .slice fa p.fees.length fc, .slice ca p.charges.length cc, .int .i64 p.line, .int .i64 p.col].toArray 29)).alloc (.cells [.string c.meter, .bool c.win.has, .int .i64 c.win.a.y, .int .i64 c.win.a.m, .int .i64 c.win.a.d, .int .i64 c.win.b.y, .int .i64 c.win.b.m, .int .i64 c.win.b.d, .int .i64 c.allowance, .int .i64 c.block, .int .i64 c.kind, .slice ta c.tiers.length tc, .int .i64 c.mode, .slice aa c.adjusts.length ac, .int .i64 c.line, .int .i64 c.col].toArray 58) by rw [hw2, hw1])
  have HnA := hid hnA
  have GA := hid g.adjs
  clear hM hO hnA hk htm hm hl hq hb0 g hp hc X1 X2 b1 b2 hw1 hw2 hk1 hk2 hk3
  go_enter Try.func29, Try.ntmps29
  go_upto_region 1 with fail
  rw [← HW.out, ← HK3.out, ← HK1.out]
  clear HW HK1 HK3
  go_wp2_with (first | (with_reducible refine wpList_load_mid (op := Oper.mk (some 11) (Op.load 29 (Operand.tmp 2)) _ _ _ _) ?_ 29 (.tmp 2) ?_ k1 0 ?_ [.string p.name, .string p.cur, .int .i64 p.a.y, .int .i64 p.a.m, .int .i64 p.a.d, .int .i64 p.b.y, .int .i64 p.b.m, .int .i64 p.b.d, .slice ma p.meters.length mc, .slice fa p.fees.length fc, .slice ca p.charges.length cc, .int .i64 p.line, .int .i64 p.col] _ RP.out Try.underlying29 ?_ ?_ ?_; rfl; rfl; go_simp; rfl; kernel_rfl) | (with_reducible refine wpList_load_mid (op := Oper.mk (some 12) (Op.load 58 (Operand.tmp 3)) _ _ _ _) ?_ 58 (.tmp 3) ?_ k2 0 ?_ [.string c.meter, .bool c.win.has, .int .i64 c.win.a.y, .int .i64 c.win.a.m, .int .i64 c.win.a.d, .int .i64 c.win.b.y, .int .i64 c.win.b.m, .int .i64 c.win.b.d, .int .i64 c.allowance, .int .i64 c.block, .int .i64 c.kind, .slice ta c.tiers.length tc, .int .i64 c.mode, .slice aa c.adjusts.length ac, .int .i64 c.line, .int .i64 c.col] _ RC.out Try.underlying58 ?_ ?_ ?_; rfl; rfl; go_simp; rfl; kernel_rfl) | fail)
  refine cB0.mono ?_
  rintro e w3 ⟨rfl, b3⟩
  have B3 := hid b3
  clear b3 cB0 RP RC
  obtain ⟨_, Y2, _, _⟩ := X.out w3 B3.out
  have c13 := Y2.cell 13 _ rfl
  rw [← HnA.out] at c13
  clear Y2
  have HM0 : Hid (M = O.bind fun n => adjAll n (c.adjusts.drop 0)) := hid (by rw [List.drop_zero]; exact HM.out)
  obtain ⟨n0, hn0⟩ : ∃ x, x = O.getD 0 := ⟨_, rfl⟩
  obtain ⟨k0, hk0⟩ : ∃ x, x = O.isSome := ⟨_, rfl⟩
  rw [← hn0, ← hk0]
  have HN0 := hid hn0
  have HK0 := hid hk0
  clear HM hn0 hk0
  go_wp2
  clear c13
  go_loopw [6, 7, 19] (fun n b i wx => ∃ (i' : Nat) (n' : Int) (b' : Bool) (o : Option Int), n = .int .i64 n' ∧ b = .bool b' ∧ i = .int .i64 (i' : Int) ∧ i' ≤ nA ∧ Hid (n' = o.getD 0) ∧ Hid (b' = o.isSome) ∧ Hid (M = o.bind fun n => adjAll n (c.adjusts.drop i')) ∧ Hid (∀ n, o = some n → I64 n ∧ n < 1152921504606846976) ∧ Hid (Below w2.heap.size w2 wx)) (fun _ _ i _ => nA - (intOf i).toNat)
  case atStart => exact ⟨0, n0, k0, O, rfl, rfl, rfl, Nat.zero_le _, HN0, HK0, HM0, HO, B3⟩
  case round =>
    clear HN0 HK0 HM0 HO B3
    obtain ⟨i', n', b', o, rfl, rfl, rfl, hi, hn, hb, hM, hO, hB⟩ := hrel
    by_cases hlt : i' < nA
    · obtain ⟨a, hti⟩ : ∃ m, c.adjusts[i']? = some m := ⟨_, List.getElem?_eq_getElem (by have := HnA.out; omega)⟩
      have ST := hid (fun n => adjAll_step (n := n) hti)
      have ga := GA.out a (List.mem_of_getElem? hti)
      obtain ⟨b, oo, e, lb, a0, a1, a2, _⟩ := adj_at (X.out _ hB.out).2.2.1.adjusts hti
      obtain ⟨wt, hwt⟩ : ∃ W, W = wr.alloc (.cells [.int .i64 a.kind, .int .i64 a.num, .int .i64 a.mode].toArray 93) := ⟨_, rfl⟩
      have xt : Box wt wr.heap.size [.int .i64 a.kind, .int .i64 a.num, .int .i64 a.mode] := by rw [hwt]; exact Box.new _ _ _
      have BT := hid (show Below w2.heap.size w2 wt by rw [hwt]; exact bel_on hB.out (bel_alloc _ _))
      have HWT := hid hwt
      have XT := hid xt
      by_cases hbb : b' = false
      · have E : Hid (M = none) := hid (by
          rw [hM.out]
          have := hb.out
          rw [hbb] at this
          cases o with
          | none => rfl
          | some _ => cases this)
        have BF := hid (X.out _ BT.out).2.2.2
        subst hbb
        clear hn hb hM hO ST hti ga hwt xt
        subst e
        go_upto_region 5 with fail
        rw [← HWT.out]
        clear HWT a0 a1 a2
        go_wp2
        go_ret2
        exact ⟨ret_n E.out, BF.out⟩
      obtain rfl : b' = true := by simpa using hbb
      obtain ⟨x, hx⟩ : ∃ x, o = some x := by
        have := hb.out
        cases o with
        | none => cases this
        | some x => exact ⟨x, rfl⟩
      have hn' : n' = x := by rw [hn.out, hx]; rfl
      subst hn'
      obtain ⟨i64x, ltx⟩ := hO.out n' hx
      have HM2 : Hid (M = (adjStep n' a).bind fun m => adjAll m (c.adjusts.drop (i' + 1))) := hid (by rw [hM.out, hx]; exact ST.out n')
      have cA := hid (fun W => adjusted_any a n' W ga i64x)
      clear hx hn hb hM hO ST hti ga hwt xt hbb i64x
      subst e
      go_upto_region 5 with fail
      rw [← HWT.out]
      clear HWT a0 a1 a2
      have t0 := XT.out.cell 0 _ rfl
      have t1 := XT.out.cell 1 _ rfl
      have t2 := XT.out.cell 2 _ rfl
      go_wp2_with fail
      refine (cA.out wt).mono ?_
      rintro e wu ⟨v, kk, ⟨rfl, bu⟩, hlim, iv⟩
      have BU := hid (bel_on BT.out bu)
      have HL := hid (fun n (e : lim v kk = some n) => lim_i64 iv e)
      obtain ⟨O2, hO2⟩ : ∃ O, O = lim v kk := ⟨_, rfl⟩
      have cB := hid (fun (W : World) => below_any v kk W)
      rw [← hO2] at cB HL hlim
      have HM3 : Hid (M = O2.bind fun m => adjAll m (c.adjusts.drop (i' + 1))) := hid (by rw [HM2.out, ← hlim])
      obtain ⟨n2, hn2⟩ : ∃ x, x = O2.getD 0 := ⟨_, rfl⟩
      obtain ⟨k2', hk2⟩ : ∃ x, x = O2.isSome := ⟨_, rfl⟩
      rw [← hn2, ← hk2] at cB
      have HN2 := hid hn2
      have HK2 := hid hk2
      clear bu cA t0 t1 t2 XT BT hlim iv hO2 hn2 hk2 HM2
      go_wp2_with fail
      refine (cB.out wu).mono ?_
      rintro e wv ⟨rfl, rfl⟩
      clear cB
      go_wp2
      go_roundw
      case rel => exact ⟨i' + 1, n2, k2', O2, rfl, rfl, by simp, by omega, HN2, HK2, HM3, HL, BU⟩
      case measure => simp [intOf]; omega
    · obtain rfl : i' = nA := by omega
      have E : Hid (M = o) := hid (by
        rw [hM.out, List.drop_of_length_le (by have := HnA.out; omega)]
        cases o <;> rfl)
      have BF := hid (X.out _ hB.out).2.2.2
      have R1 := hid (show n' = M.getD 0 by rw [E.out]; exact hn.out)
      have R2 := hid (show b' = M.isSome by rw [E.out]; exact hb.out)
      clear hM hO hn hb E
      go_wp2
      go_ret2
      exact ⟨ret_m R1.out R2.out, BF.out⟩
end Go.Proofs.Ytnhhhnngocdagaa.Cc
/- Package check, walked: Bound. -/
namespace Go.Proofs.Ytnhhhnngocdagaa.Cc
open Go.RowKit Go.Sort P Mm Md R6 L06 R9
/-- What is taken together so far, and one number more. -/
def tkO (o : Option Int) (n : Int) (ok : Bool) : Option Int := if ok = true then o.bind fun t => lim (cut64 (t + n)) (ok64 (t + n)) else none
structure Tk (W : World) (bT bH : Nat) (o : Option Int) : Prop where
  t : W.cell? ⟨bT, 0, none⟩ = some (.int .i64 (o.getD 0))
  h : W.cell? ⟨bH, 0, none⟩ = some (.bool o.isSome)
  ft : W.frozen? ⟨bT, 0, none⟩ = false
  fh : W.frozen? ⟨bH, 0, none⟩ = false
  lt : bT < W.heap.size ∧ bH < W.heap.size
theorem Tk.on {W W' : World} {bT bH : Nat} {o : Option Int} (h : Tk W bT bH o) (b : Below W.heap.size W W') : Tk W' bT bH o :=
  ⟨(b.cell h.lt.1).trans h.t, (b.cell h.lt.2).trans h.h, (b.frozen h.lt.1).trans h.ft, (b.frozen h.lt.2).trans h.fh, Nat.lt_of_lt_of_le h.lt.1 b.size, Nat.lt_of_lt_of_le h.lt.2 b.size⟩
theorem Tk.put {W : World} {bT bH : Nat} {o o' : Option Int} (h : Tk W bT bH o) (ne : bT ≠ bH) : Tk ((W.setCell ⟨bT, 0, none⟩ (.int .i64 (o'.getD 0))).setCell ⟨bH, 0, none⟩ (.bool o'.isSome)) bT bH o' := by
  obtain ⟨t, h1, ft, fh, l1, l2⟩ := h
  have ne' : bH ≠ bT := fun e => ne e.symm
  constructor
  · go_simp
  · go_simp
  · go_simp
  · go_simp
  · simp [World.setCell]; exact ⟨l1, l2⟩
set_option maxHeartbeats 8000000 in
theorem take_any (n : Int) (k : Bool) (bT bH : Nat) (o : Option Int) (w : World) (hn : I64 n) (h : Tk w bT bH o) (ne : bT ≠ bH) (io : ∀ m, o = some m → I64 m) :
    Calls Try.prog 26 #[.int .i64 n, .bool k, .pointer (some ⟨bH, 0, none⟩), .pointer (some ⟨bT, 0, none⟩)] w fun e w' => e = .returned (.tuple #[]) ∧ w' = (w.setCell ⟨bT, 0, none⟩ (.int .i64 ((tkO o n k).getD 0))).setCell ⟨bH, 0, none⟩ (.bool (tkO o n k).isSome) := by
  obtain ⟨t, h1, ft, fh, l1, l2⟩ := h
  have ne' : bH ≠ bT := fun e => ne e.symm
  by_cases hc : o = none ∨ k = false
  · have e : tkO o n k = none := by
      unfold tkO
      rcases hc with rfl | rfl
      · split <;> rfl
      · rfl
    rw [e]
    show Calls _ _ _ _ fun e w' => e = .returned (.tuple #[]) ∧ w' = (w.setCell ⟨bT, 0, none⟩ (.int .i64 0)).setCell ⟨bH, 0, none⟩ (.bool false)
    by_cases ho : o = none
    · subst ho
      have h2 : w.cell? ⟨bH, 0, none⟩ = some (.bool false) := h1
      clear h1 io e hc hn
      go_enter Try.func26, Try.ntmps26
      go_wp2
      (try simp only [Exit.inBlock, Exit.then]); refine bodyPost_ret (results_none rfl _ _ _) rfl ?_
      exact ⟨rfl, rfl⟩
    · have hk : k = false := by rcases hc with h | h; exact absurd h ho; exact h
      obtain ⟨m, hm⟩ := Option.ne_none_iff_exists'.1 ho
      subst hk
      subst hm
      have h2 : w.cell? ⟨bH, 0, none⟩ = some (.bool true) := h1
      clear h1 io e hc ho hn
      go_enter Try.func26, Try.ntmps26
      go_wp2
      (try simp only [Exit.inBlock, Exit.then]); refine bodyPost_ret (results_none rfl _ _ _) rfl ?_
      exact ⟨rfl, rfl⟩
  · obtain ⟨m, hm⟩ := Option.ne_none_iff_exists'.1 (fun h => hc (.inl h))
    have hk : k = true := by
      cases k with
      | true => rfl
      | false => exact absurd (.inr rfl) hc
    subst hk
    subst hm
    have im := io m rfl
    have h2 : w.cell? ⟨bH, 0, none⟩ = some (.bool true) := h1
    have t2 : w.cell? ⟨bT, 0, none⟩ = some (.int .i64 m) := t
    have cA := hid (Ex.add_any m n w im hn)
    obtain ⟨N, hN⟩ : ∃ N, N = cut64 (m + n) := ⟨_, rfl⟩
    obtain ⟨K, hK⟩ : ∃ N, N = ok64 (m + n) := ⟨_, rfl⟩
    have e : tkO (some m) n true = lim N K := by rw [hN, hK]; rfl
    rw [← hN, ← hK] at cA
    have cB := hid (below_any N K w)
    rw [e]
    obtain ⟨O, hO⟩ : ∃ O, O = lim N K := ⟨_, rfl⟩
    rw [← hO] at cB ⊢
    obtain ⟨XV, hXV⟩ : ∃ x, x = O.getD 0 := ⟨_, rfl⟩
    obtain ⟨XB, hXB⟩ : ∃ x, x = O.isSome := ⟨_, rfl⟩
    rw [← hXV, ← hXB] at cB ⊢
    clear h1 t io e hc hN hK hO hXV hXB im hn
    go_enter Try.func26, Try.ntmps26
    go_wp2_with fail
    refine cA.out.mono ?_
    rintro e w1 ⟨rfl, rfl⟩
    go_wp2_with fail
    refine cB.out.mono ?_
    rintro e w1 ⟨rfl, rfl⟩
    go_wp2
    go_end0
    exact ⟨rfl, rfl⟩
/-- The same, told by what holds behind it. -/
theorem take_tk (n : Int) (k : Bool) (bT bH : Nat) (o : Option Int) (w : World) (hn : I64 n) (h : Tk w bT bH o) (ne : bT ≠ bH) (io : ∀ m, o = some m → I64 m) :
    Calls Try.prog 26 #[.int .i64 n, .bool k, .pointer (some ⟨bH, 0, none⟩), .pointer (some ⟨bT, 0, none⟩)] w fun e w' => e = .returned (.tuple #[]) ∧ Tk w' bT bH (tkO o n k) ∧ ∀ (B : Nat) (w0 : World), B ≤ bT → B ≤ bH → Below B w0 w → Below B w0 w' :=
  (take_any n k bT bH o w hn h ne io).mono fun _ _ ⟨e1, e2⟩ => by
    subst e2
    exact ⟨e1, h.put ne, fun B w0 h1 h2 hb => (hb.setCell h1 _).setCell h2 _⟩
def I60o (o : Option Int) : Prop := ∀ n, o = some n → 0 ≤ n ∧ n < 1152921504606846976
theorem I60o.i64 {o : Option Int} (h : I60o o) : ∀ n, o = some n → I64 n := fun n e => by have := h n e; unfold I64; omega
theorem tk_60 {o : Option Int} {x : Int} {k : Bool} (h : I60o o) (hx : 0 ≤ x) : I60o (tkO o x k) := by
  intro n e
  unfold tkO at e
  split at e
  · obtain ⟨t, ht, e2⟩ := Option.bind_eq_some_iff.1 e
    obtain ⟨h1, h2, rfl⟩ := lim_some e2
    rw [ok64_iff] at h1
    rw [cut64_t h1] at h2 ⊢
    have := (h t ht).1
    exact ⟨by omega, h2⟩
  · cases e
theorem sum_tk {o : Option Int} {x : Int} {r : List Int} (h : I60o o) (hx : I60 x) : (o.bind fun n => sumUp n (x :: r)) = (tkO o x true).bind fun n => sumUp n r := by
  cases o with
  | none => rfl
  | some n =>
    obtain ⟨n0, n1⟩ := h n rfl
    obtain ⟨x0, x1⟩ := hx
    show sumUp n (x :: r) = (lim (cut64 (n + x)) (ok64 (n + x))).bind fun n => sumUp n r
    conv => lhs; unfold sumUp
    by_cases hl : n + x < 1152921504606846976
    · have hi : I64 (n + x) := by unfold I64; omega
      rw [if_neg (by unfold maxBound; omega), cut64_t hi, ok64_t hi, lim_t rfl (by unfold maxBound; omega)]
      rfl
    · rw [if_pos (by unfold maxBound; omega)]
      by_cases hi : I64 (n + x)
      · rw [cut64_t hi, ok64_t hi, lim_g (by unfold maxBound; omega)]; rfl
      · rw [cut64_f hi, ok64_f hi, lim_f rfl]; rfl
theorem most_tk {ms : List Meter} {cs : List Charge} {j k : Nat} {c : Charge} {o O : Option Int} (hj : cs[j]? = some c) (hk : meterIx ms c.meter = some k) (hO : O = mostOf c (ms.getD k default).max) (h : I60o o) (hx : ∀ x, O = some x → I60 x) :
    ((mosts ms (cs.drop j)).bind fun l => o.bind fun n => sumUp n l) = (mosts ms (cs.drop (j + 1))).bind fun l => (tkO o (O.getD 0) O.isSome).bind fun n => sumUp n l := by
  rw [mosts_some hj hk, ← hO]
  cases O with
  | none =>
    show none = (mosts ms (cs.drop (j + 1))).bind fun l => none
    cases mosts ms (cs.drop (j + 1)) <;> rfl
  | some x =>
    show (((mosts ms (cs.drop (j + 1))).map (x :: ·)).bind fun l => o.bind fun n => sumUp n l) = (mosts ms (cs.drop (j + 1))).bind fun l => (tkO o x true).bind fun n => sumUp n l
    cases mosts ms (cs.drop (j + 1)) with
    | none => rfl
    | some l => exact sum_tk h (hx x rfl)
theorem fee_tk {fs : List Fee} {i : Nat} {f : Fee} {o : Option Int} {z : Option (List Int)} (hi : fs[i]? = some f) (h : I60o o) (hx : I60 f.amount) :
    (z.bind fun l => o.bind fun n => sumUp n ((fs.drop i).map (·.amount) ++ l)) = z.bind fun l => (tkO o f.amount true).bind fun n => sumUp n ((fs.drop (i + 1)).map (·.amount) ++ l) := by
  rw [drop_at hi]
  cases z with
  | none => rfl
  | some l => exact sum_tk h hx
set_option maxHeartbeats 16000000 in
set_option maxRecDepth 100000 in
theorem bound_any (p : Plan) (ma : Option Addr) (mc : Nat) (fa : Option Addr) (fc : Nat) (ca : Option Addr) (cc : Nat) (w : World) (hp : PlanLies w (planC p ma mc fa fc ca cc) p ma mc fa fc ca cc) (h : Chs p) :
    Calls Try.prog 11 #[.agg #[.string p.name, .string p.cur, .int .i64 p.a.y, .int .i64 p.a.m, .int .i64 p.a.d, .int .i64 p.b.y, .int .i64 p.b.m, .int .i64 p.b.d, .slice ma p.meters.length mc, .slice fa p.fees.length fc, .slice ca p.charges.length cc, .int .i64 p.line, .int .i64 p.col]] w fun e w' => e = .returned (.tuple #[.int .i64 ((boundOf p).getD 0), .bool (boundOf p).isSome]) ∧ Below w.heap.size w w' := by
  obtain ⟨w1, hw1⟩ : ∃ W, W = w.alloc (.cells [.string p.name, .string p.cur, .int .i64 p.a.y, .int .i64 p.a.m, .int .i64 p.a.d, .int .i64 p.b.y, .int .i64 p.b.m, .int .i64 p.b.d, .slice ma p.meters.length mc, .slice fa p.fees.length fc, .slice ca p.charges.length cc, .int .i64 p.line, .int .i64 p.col].toArray 29) := ⟨_, rfl⟩
  have b1 : Below w.heap.size w w1 := by rw [hw1]; exact bel_alloc _ _
  obtain ⟨k1, hk1⟩ : ∃ k, k = w.heap.size := ⟨_, rfl⟩
  have X1 : Box w1 k1 [.string p.name, .string p.cur, .int .i64 p.a.y, .int .i64 p.a.m, .int .i64 p.a.d, .int .i64 p.b.y, .int .i64 p.b.m, .int .i64 p.b.d, .slice ma p.meters.length mc, .slice fa p.fees.length fc, .slice ca p.charges.length cc, .int .i64 p.line, .int .i64 p.col] := by rw [hw1, hk1]; exact Box.new _ _ _
  obtain ⟨nF, hnF⟩ : ∃ n, n = p.fees.length := ⟨_, rfl⟩
  obtain ⟨nC, hnC⟩ : ∃ n, n = p.charges.length := ⟨_, rfl⟩
  have C : Hid (∀ W, Below w1.heap.size w1 W → Box W k1 [.string p.name, .string p.cur, .int .i64 p.a.y, .int .i64 p.a.m, .int .i64 p.a.d, .int .i64 p.b.y, .int .i64 p.b.m, .int .i64 p.b.d, .slice ma p.meters.length mc, .slice fa p.fees.length fc, .slice ca p.charges.length cc, .int .i64 p.line, .int .i64 p.col]) := hid fun W b => X1.on b
  have C2 : Hid (∀ W, Below w1.heap.size w1 W → W.cell? ⟨k1, 9, none⟩ = some (.slice fa nF fc) ∧ W.cell? ⟨k1, 10, none⟩ = some (.slice ca nC cc)) := hid fun W b => by
    rw [hnF, hnC]; exact ⟨(X1.on b).cell 9 _ rfl, (X1.on b).cell 10 _ rfl⟩
  have L0 : Hid (∀ W, Below w1.heap.size w1 W → PlanLies W (planC p ma mc fa fc ca cc) p ma mc fa fc ca cc ∧ Below w.heap.size w W) :=
    hid fun W b => ⟨hp.on (bel_on b1 b), bel_on b1 b⟩
  have qF : nF ≤ 20000 := by rw [hnF]; exact h.cnt.2.1
  have qC : nC ≤ 20000 := by rw [hnC]; exact h.cnt.2.2
  have uF : nF ≤ fc := by rw [hnF]; exact hp.fees.hcap
  have uC : nC ≤ cc := by rw [hnC]; exact hp.charges.hcap
  obtain ⟨M, hM⟩ : ∃ M, M = boundOf p := ⟨_, rfl⟩
  rw [← hM]
  have HM : Hid (M = (mosts p.meters p.charges).bind fun l => (some 0 : Option Int).bind fun n => sumUp n ((p.fees.drop 0).map (·.amount) ++ l)) := hid (by rw [hM, List.drop_zero]; rfl)
  obtain ⟨w2, hw2⟩ : ∃ W, W = (w1.alloc (.cells #[.int .i64 0] 3)).alloc (.cells #[.bool true] 4) := ⟨_, rfl⟩
  obtain ⟨bT, hbT⟩ : ∃ k, k = w1.heap.size := ⟨_, rfl⟩
  obtain ⟨bH, hbH⟩ : ∃ k, k = w1.heap.size + 1 := ⟨_, rfl⟩
  have ne : bT ≠ bH := by omega
  have b2 : Below w1.heap.size w1 w2 := by rw [hw2]; exact bel_on (bel_alloc _ _) (bel_alloc _ _)
  have T0 : Hid (Tk w2 bT bH (some 0)) := hid (by
    rw [hw2, hbT, hbH]
    constructor
    · go_simp
    · go_simp
    · go_simp
    · go_simp
    · simp; omega)
  have HW2 := hid hw2
  have HBT := hid hbT
  have HBH := hid hbH
  have HnF := hid hnF
  have HnC := hid hnC
  have H := hid h
  have HW := hid hw1
  have HK := hid hk1
  have B2 := hid b2
  have LT : Hid (w1.heap.size ≤ bT ∧ w1.heap.size ≤ bH) := hid (by omega)
  clear hM hnF hnC hp b1 X1 hw1 hk1 h hw2 hbT hbH b2
  go_enter Try.func11, Try.ntmps11
  go_upto_region 1 with fail
  rw [← HW.out, ← HK.out]
  clear HW HK
  go_upto_region 2 with fail
  rw [← HW2.out, ← HBH.out, ← HBT.out]
  clear HW2 HBH HBT
  obtain ⟨c9, c10⟩ := C2.out w2 B2.out
  clear c10
  go_wp2
  clear c9
  go_loopw [15] (fun i wx => ∃ (i' : Nat) (o : Option Int), i = .int .i64 (i' : Int) ∧ i' ≤ nF ∧ Hid (M = (mosts p.meters p.charges).bind fun l => o.bind fun n => sumUp n ((p.fees.drop i').map (·.amount) ++ l)) ∧ Hid (I60o o) ∧ Hid (Tk wx bT bH o) ∧ Hid (Below w1.heap.size w1 wx)) (fun i _ => nF - (intOf i).toNat)
  case atStart => exact ⟨0, some 0, rfl, Nat.zero_le _, HM, hid (fun n e => by cases e; omega), T0, B2⟩
  case round =>
    clear HM T0 B2
    obtain ⟨i', o, rfl, hi, hM, hO, hT, hB⟩ := hrel
    by_cases hlt : i' < nF
    · obtain ⟨x, hti⟩ : ∃ m, p.fees[i']? = some m := ⟨_, List.getElem?_eq_getElem (by have := HnF.out; omega)⟩
      have gx := (H.out.gd.fees x (List.mem_of_getElem? hti)).1
      have ix : I60 x.amount := ⟨gx.1, by have := gx.2; omega⟩
      have HM2 : Hid (M = (mosts p.meters p.charges).bind fun l => (tkO o x.amount true).bind fun n => sumUp n ((p.fees.drop (i' + 1)).map (·.amount) ++ l)) := hid (by rw [hM.out, fee_tk hti hO.out ix])
      have HO2 := hid (tk_60 (k := true) hO.out ix.1)
      obtain ⟨b, oo, e, lb, a0, a1, a2, a3, a4, a5, a6, a7, a8, a9, _⟩ := fee_at (L0.out _ hB.out).1.fees hti
      obtain ⟨wt, hwt⟩ : ∃ W, W = wr.alloc (.cells [.int .i64 x.amount, .bool x.win.has, .int .i64 x.win.a.y, .int .i64 x.win.a.m, .int .i64 x.win.a.d, .int .i64 x.win.b.y, .int .i64 x.win.b.m, .int .i64 x.win.b.d, .int .i64 x.line, .int .i64 x.col].toArray 54) := ⟨_, rfl⟩
      obtain ⟨kx, hkx⟩ : ∃ k, k = wr.heap.size := ⟨_, rfl⟩
      have xt : Box wt kx [.int .i64 x.amount, .bool x.win.has, .int .i64 x.win.a.y, .int .i64 x.win.a.m, .int .i64 x.win.a.d, .int .i64 x.win.b.y, .int .i64 x.win.b.m, .int .i64 x.win.b.d, .int .i64 x.line, .int .i64 x.col] := by rw [hwt, hkx]; exact Box.new _ _ _
      have bt : Below wr.heap.size wr wt := by rw [hwt]; exact bel_alloc _ _
      have BT := hid (bel_on hB.out bt)
      have t0 := xt.cell 0 _ rfl
      have cT := hid (take_tk x.amount true bT bH o wt (by have := ix.1; have := ix.2; unfold I64; omega) (hT.out.on bt) ne hO.out.i64)
      have HWT := hid hwt
      have HKX := hid hkx
      clear hti gx ix hM hO hT hB xt bt hwt hkx
      subst e
      go_upto_region 6 with fail
      rw [← HWT.out, ← HKX.out]
      clear HWT HKX a0 a1 a2 a3 a4 a5 a6 a7 a8 a9
      go_wp2_with fail
      refine cT.out.mono ?_
      rintro e wu ⟨rfl, tu, bu⟩
      have TU := hid tu
      have BU := hid (bu w1.heap.size w1 LT.out.1 LT.out.2 BT.out)
      clear tu bu cT t0 BT
      go_wp2
      go_roundw
      case rel => exact ⟨i' + 1, _, by simp, by omega, HM2, HO2, TU, BU⟩
      case measure => simp [intOf]; omega
    · obtain rfl : i' = nF := by omega
      have HM3 : Hid (M = (mosts p.meters (p.charges.drop 0)).bind fun l => o.bind fun n => sumUp n l) := hid (by
        rw [hM.out, List.drop_of_length_le (by have := HnF.out; omega), List.drop_zero]; rfl)
      obtain ⟨wq, hwq⟩ : ∃ wq, wq = wr := ⟨_, rfl⟩
      rw [← hwq] at hT hB ⊢
      clear hwq hM hlt hi
      obtain ⟨c9, c10⟩ := C2.out wq hB.out
      clear c9
      have B3 := hB
      have T3 := hT
      have O3 := hO
      clear hB hT hO
      go_wp2
      clear c10
      go_loopw [27] (fun i wx => ∃ (j' : Nat) (o : Option Int), i = .int .i64 (j' : Int) ∧ j' ≤ nC ∧ Hid (M = (mosts p.meters (p.charges.drop j')).bind fun l => o.bind fun n => sumUp n l) ∧ Hid (I60o o) ∧ Hid (Tk wx bT bH o) ∧ Hid (Below w1.heap.size w1 wx)) (fun i _ => nC - (intOf i).toNat)
      case atStart => exact ⟨0, o, rfl, Nat.zero_le _, HM3, O3, T3, B3⟩
      case round =>
        clear HM3 O3 T3 B3
        obtain ⟨j', o, rfl, hi, hM, hO, hT, hB⟩ := hrel
        by_cases hlt : j' < nC
        · obtain ⟨c, hti⟩ : ∃ m, p.charges[j']? = some m := ⟨_, List.getElem?_eq_getElem (by have := HnC.out; omega)⟩
          have hmem := List.mem_of_getElem? hti
          obtain ⟨k, hk⟩ := H.out.named c hmem
          obtain ⟨m, htm⟩ : ∃ m, p.meters[k]? = some m := ⟨_, List.getElem?_eq_getElem (by unfold meterIx at hk; exact (List.findIdx?_eq_some_iff_getElem.1 hk).1)⟩
          have gm := H.out.gd.meters m (List.mem_of_getElem? htm)
          have gD : (p.meters.getD k default).max = m.max := by rw [List.getD_eq_getElem?_getD, htm]; rfl
          obtain ⟨b, oo, ta, tc, aa, ac, e, ax, lx0⟩ := charge_at (L0.out _ hB.out).1.charges hti
          have r1 := hid (range_ch ax)
          unfold chargeC at r1
          obtain ⟨wt, hwt⟩ : ∃ W, W = wr.alloc (.cells [.string c.meter, .bool c.win.has, .int .i64 c.win.a.y, .int .i64 c.win.a.m, .int .i64 c.win.a.d, .int .i64 c.win.b.y, .int .i64 c.win.b.m, .int .i64 c.win.b.d, .int .i64 c.allowance, .int .i64 c.block, .int .i64 c.kind, .slice ta c.tiers.length tc, .int .i64 c.mode, .slice aa c.adjusts.length ac, .int .i64 c.line, .int .i64 c.col].toArray 58) := ⟨_, rfl⟩
          obtain ⟨kx, hkx⟩ : ∃ k, k = wr.heap.size := ⟨_, rfl⟩
          have xt : Box wt kx [.string c.meter, .bool c.win.has, .int .i64 c.win.a.y, .int .i64 c.win.a.m, .int .i64 c.win.a.d, .int .i64 c.win.b.y, .int .i64 c.win.b.m, .int .i64 c.win.b.d, .int .i64 c.allowance, .int .i64 c.block, .int .i64 c.kind, .slice ta c.tiers.length tc, .int .i64 c.mode, .slice aa c.adjusts.length ac, .int .i64 c.line, .int .i64 c.col] := by rw [hwt, hkx]; exact Box.new _ _ _
          have bt : Below wr.heap.size wr wt := by rw [hwt]; exact bel_alloc _ _
          have BT := hid (bel_on hB.out bt)
          have cO := most_any p ma mc fa fc ca cc c ta tc aa ac k m wt (L0.out _ BT.out).1 (ch_on lx0 bt) (H.out.gd.charges c hmem) (H.out.block c hmem) hk htm gm.2.2 (by have := H.out.cnt.1; omega) (H.out.parts c hmem).2
          obtain ⟨O, hOO⟩ : ∃ O, O = mostOf c m.max := ⟨_, rfl⟩
          have HO3 : ∀ x, O = some x → I60 x := fun x e => by
            have e2 : mostOf c m.max = some x := by rw [← hOO]; exact e
            have := mostOf_lt e2
            exact most_i60 (H.out.gd.charges c hmem) e2 (by unfold maxBound at this; omega)
          rw [← hOO] at cO
          have HM2 : Hid (M = (mosts p.meters (p.charges.drop (j' + 1))).bind fun l => (tkO o (O.getD 0) O.isSome).bind fun n => sumUp n l) := hid (by rw [hM.out, most_tk hti hk (by rw [gD]; exact hOO) hO.out HO3])
          obtain ⟨XV, hXV⟩ : ∃ x, x = O.getD 0 := ⟨_, rfl⟩
          obtain ⟨XB, hXB⟩ : ∃ x, x = O.isSome := ⟨_, rfl⟩
          have xv : 0 ≤ XV ∧ XV ≤ 9223372036854775807 := by
            rw [hXV]
            cases O with
            | none => exact ⟨by decide, by decide⟩
            | some x => exact HO3 x rfl
          rw [← hXV, ← hXB] at cO HM2
          have HO2 := hid (tk_60 (k := XB) hO.out xv.1)
          have cT := hid (fun (W : World) (bw : Below wt.heap.size wt W) => take_tk XV XB bT bH o W (by unfold I64; omega) ((hT.out.on bt).on bw) ne hO.out.i64)
          have RP := hid (range_of (C.out wt BT.out).cell)
          have RC := hid (range_of xt.cell)
          have HWT := hid hwt
          have HKX := hid hkx
          have HC := hid cO
          clear hti hmem hk htm gm gD ax lx0 hwt hkx xt bt hM hO hT hB hOO HO3 hXV hXB xv cO
          subst e
          go_upto_region 11 with (first
            | (with_reducible refine wpList_load_mid (op := Oper.mk (some 30) (Op.load 58 (Operand.tmp 29)) _ _ _ _) ?_ 58 (.tmp 29) ?_ b (oo + j' * 16) ?_ [.string c.meter, .bool c.win.has, .int .i64 c.win.a.y, .int .i64 c.win.a.m, .int .i64 c.win.a.d, .int .i64 c.win.b.y, .int .i64 c.win.b.m, .int .i64 c.win.b.d, .int .i64 c.allowance, .int .i64 c.block, .int .i64 c.kind, .slice ta c.tiers.length tc, .int .i64 c.mode, .slice aa c.adjusts.length ac, .int .i64 c.line, .int .i64 c.col] _ r1.out Try.underlying58 ?_ ?_ ?_; rfl; rfl; go_simp; rfl; kernel_rfl)
            | (with_reducible refine wpList_store_new (op := Oper.mk none (Op.store 58 (Operand.tmp 10) (Operand.tmp 30)) _ _ _ _) ?_ 58 (.tmp 10) (.tmp 30) ?_ wr _ #[.string c.meter, .bool c.win.has, .int .i64 c.win.a.y, .int .i64 c.win.a.m, .int .i64 c.win.a.d, .int .i64 c.win.b.y, .int .i64 c.win.b.m, .int .i64 c.win.b.d, .int .i64 c.allowance, .int .i64 c.block, .int .i64 c.kind, .slice ta c.tiers.length tc, .int .i64 c.mode, .slice aa c.adjusts.length ac, .int .i64 c.line, .int .i64 c.col] ?_ ?_ ?_ ?_ ?_ ?_; rfl; rfl; go_simp; go_simp; kernel_rfl; rfl; (simp [Value.oneCell']))
            | fail)
          rw [← HWT.out, ← HKX.out]
          clear HWT HKX r1
          go_wp2_with (first | (with_reducible refine wpList_load_mid (op := Oper.mk (some 32) (Op.load 29 (Operand.tmp 1)) _ _ _ _) ?_ 29 (.tmp 1) ?_ k1 0 ?_ [.string p.name, .string p.cur, .int .i64 p.a.y, .int .i64 p.a.m, .int .i64 p.a.d, .int .i64 p.b.y, .int .i64 p.b.m, .int .i64 p.b.d, .slice ma p.meters.length mc, .slice fa p.fees.length fc, .slice (some ⟨b, oo, none⟩) p.charges.length cc, .int .i64 p.line, .int .i64 p.col] _ RP.out Try.underlying29 ?_ ?_ ?_; rfl; rfl; go_simp; rfl; kernel_rfl) | (with_reducible refine wpList_load_mid (op := Oper.mk (some 33) (Op.load 58 (Operand.tmp 10)) _ _ _ _) ?_ 58 (.tmp 10) ?_ kx 0 ?_ [.string c.meter, .bool c.win.has, .int .i64 c.win.a.y, .int .i64 c.win.a.m, .int .i64 c.win.a.d, .int .i64 c.win.b.y, .int .i64 c.win.b.m, .int .i64 c.win.b.d, .int .i64 c.allowance, .int .i64 c.block, .int .i64 c.kind, .slice ta c.tiers.length tc, .int .i64 c.mode, .slice aa c.adjusts.length ac, .int .i64 c.line, .int .i64 c.col] _ RC.out Try.underlying58 ?_ ?_ ?_; rfl; rfl; go_simp; rfl; kernel_rfl) | fail)
          refine HC.out.mono ?_
          rintro e wv ⟨rfl, bv⟩
          have BV := hid (bel_on BT.out bv)
          have cT2 := hid (cT.out wv bv)
          clear bv HC RP RC cT BT
          go_wp2_with fail
          refine cT2.out.mono ?_
          rintro e wu ⟨rfl, tu, bu⟩
          have TU := hid tu
          have BU := hid (bu w1.heap.size w1 LT.out.1 LT.out.2 BV.out)
          clear tu bu cT2 BV
          go_wp2
          go_roundw
          case rel => exact ⟨j' + 1, _, by simp, by omega, HM2, HO2, TU, BU⟩
          case measure => simp [intOf]; omega
        · obtain rfl : j' = nC := by omega
          have E : Hid (M = o) := hid (by
            rw [hM.out, mosts_end (by have := HnC.out; omega)]
            show (o.bind fun n => sumUp n []) = o
            cases o <;> rfl)
          rw [← E.out] at hT
          obtain ⟨t1, t2, _, _, _⟩ := hT.out
          have f1 := cell_regrown t1
          have f2 := cell_regrown t2
          obtain ⟨XV, hXV⟩ : ∃ x, x = M.getD 0 := ⟨_, rfl⟩
          obtain ⟨XB, hXB⟩ : ∃ x, x = M.isSome := ⟨_, rfl⟩
          rw [← hXV] at f1
          rw [← hXB] at f2
          have R1 := hid hXV
          have R2 := hid hXB
          clear hXV hXB t1 t2 hT hO hM
          go_upto_region 13 with fail
          refine wp_region_quiet_below (by kernel_rfl) (by kernel_rfl) ?_
          repeat (go_big_quiet_step (fail))
          refine wpQuiet_nil ?_
          intro wv hw'
          obtain ⟨⟨dq, osq⟩, hw''⟩ := hw'
          have BF := hid (L0.out _ (bel_on hB.out (show Below wr.heap.size wr wv by subst hw''; exact below_regrown wr dq osq))).2
          clear hw'' f1 f2
          go_wp2
          go_ret2
          exact ⟨ret_m R1.out R2.out, BF.out⟩
end Go.Proofs.Ytnhhhnngocdagaa.Cc

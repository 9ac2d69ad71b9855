/- Package check, walked: Plan. -/
import Derived.Test.YtnhhhnngocdagaaJCk5
import Derived.Test.YtnhhhnngocdagaaJDecP
import Derived.Test.YtnhhhnngocdagaaJShT
import Derived.Test.YtnhhhnngocdagaaRows
import Derived.Test.YtnhhhnngocdagaaJDatB
import Derived.WalkSmall
import Derived.WalkKit
import Derived.Lib.Strings
import Derived.Laws.Cover1
namespace Go.Proofs.Ytnhhhnngocdagaa.Cc
open Go.RowKit Go.Sort P Mm Md R6 L06 R9
/-- The fault's cells, as long as nobody writes them. -/
structure Fl (k : Nat) (W : World) : Prop where
  c0 : W.cell? ⟨k, 0, none⟩ = some (.int .i64 0)
  c1 : W.cell? ⟨k, 1, none⟩ = some (.int .i64 0)
  c2 : W.cell? ⟨k, 2, none⟩ = some (.int .i64 0)
  f0 : W.frozen? ⟨k, 0, none⟩ = false
  f1 : W.frozen? ⟨k, 1, none⟩ = false
  f2 : W.frozen? ⟨k, 2, none⟩ = false
theorem fl_new {w W0 W : World} (hW : W0 = w.alloc (.cells #[.int .i64 0, .int .i64 0, .int .i64 0] 34)) (h : Below W0.heap.size W0 W) : Fl w.heap.size W := by
  have hs : w.heap.size < W0.heap.size := by rw [hW]; simp
  have hc : ∀ o, W.cell? ⟨w.heap.size, o, none⟩ = W0.cell? ⟨w.heap.size, o, none⟩ := fun o => h.cell hs
  have hf : ∀ o, W.frozen? ⟨w.heap.size, o, none⟩ = W0.frozen? ⟨w.heap.size, o, none⟩ := fun o => h.frozen hs
  constructor
  all_goals first | rw [hc] | rw [hf]
  all_goals rw [hW]
  all_goals go_simp
theorem ret_f {R : Int × Int × Int} {a b c : Int} {w w' : World} {B : Nat} (h : R = (a, b, c)) (x : Below B w w') : (Ending.returned (.agg #[.int .i64 a, .int .i64 b, .int .i64 c]) : Ending) = .returned (.agg #[.int .i64 R.1, .int .i64 R.2.1, .int .i64 R.2.2]) ∧ Below B w w' := ⟨by rw [h], x⟩
set_option maxHeartbeats 16000000 in
set_option maxRecDepth 100000 in
theorem plan_any (p : Plan) (ma : Option Addr) (mc : Nat) (fa : Option Addr) (fc : Nat) (ca : Option Addr) (cc : Nat) (w : World) (hp : PlanLies w (planC p ma mc fa fc ca cc) p ma mc fa fc ca cc) (h : Pl9 p) :
    Calls Try.prog 7 #[.agg #[.string p.name, .string p.cur, .int .i64 p.a.y, .int .i64 p.a.m, .int .i64 p.a.d, .int .i64 p.b.y, .int .i64 p.b.m, .int .i64 p.b.d, .slice ma p.meters.length mc, .slice fa p.fees.length fc, .slice ca p.charges.length cc, .int .i64 p.line, .int .i64 p.col]] w fun e w' => e = .returned (.agg #[.int .i64 (wrongOf p).1, .int .i64 (wrongOf p).2.1, .int .i64 (wrongOf p).2.2]) ∧ Below w.heap.size w w' := by
  obtain ⟨w0, hw0⟩ : ∃ W, W = w.alloc (.cells [.string p.name, .string p.cur, .int .i64 p.a.y, .int .i64 p.a.m, .int .i64 p.a.d, .int .i64 p.b.y, .int .i64 p.b.m, .int .i64 p.b.d, .slice ma p.meters.length mc, .slice fa p.fees.length fc, .slice ca p.charges.length cc, .int .i64 p.line, .int .i64 p.col].toArray 29) := ⟨_, rfl⟩
  have b0 : Below w.heap.size w w0 := by rw [hw0]; exact bel_alloc _ _
  obtain ⟨k1, hk1⟩ : ∃ k, k = w.heap.size := ⟨_, rfl⟩
  have X0 : Box w0 k1 [.string p.name, .string p.cur, .int .i64 p.a.y, .int .i64 p.a.m, .int .i64 p.a.d, .int .i64 p.b.y, .int .i64 p.b.m, .int .i64 p.b.d, .slice ma p.meters.length mc, .slice fa p.fees.length fc, .slice ca p.charges.length cc, .int .i64 p.line, .int .i64 p.col] := by rw [hw0, hk1]; exact Box.new _ _ _
  obtain ⟨w1, hw1⟩ : ∃ W, W = w0.alloc (.cells #[.int .i64 0, .int .i64 0, .int .i64 0] 34) := ⟨_, rfl⟩
  have b01 : Below w0.heap.size w0 w1 := by rw [hw1]; exact bel_alloc _ _
  have b1 : Below w.heap.size w w1 := bel_on b0 b01
  have X1 : Box w1 k1 [.string p.name, .string p.cur, .int .i64 p.a.y, .int .i64 p.a.m, .int .i64 p.a.d, .int .i64 p.b.y, .int .i64 p.b.m, .int .i64 p.b.d, .slice ma p.meters.length mc, .slice fa p.fees.length fc, .slice ca p.charges.length cc, .int .i64 p.line, .int .i64 p.col] := X0.on b01
  obtain ⟨kf, hkf⟩ : ∃ k, k = w0.heap.size := ⟨_, rfl⟩
  have kfe : kf = w.heap.size + 1 := by rw [hkf, hw0]; simp
  obtain ⟨nM, hnM⟩ : ∃ n, n = p.meters.length := ⟨_, rfl⟩
  obtain ⟨nF, hnF⟩ : ∃ n, n = p.fees.length := ⟨_, rfl⟩
  obtain ⟨nC, hnC⟩ : ∃ n, n = p.charges.length := ⟨_, rfl⟩
  have C : Hid (∀ W, Below w1.heap.size w1 W → Box W k1 [.string p.name, .string p.cur, .int .i64 p.a.y, .int .i64 p.a.m, .int .i64 p.a.d, .int .i64 p.b.y, .int .i64 p.b.m, .int .i64 p.b.d, .slice ma p.meters.length mc, .slice fa p.fees.length fc, .slice ca p.charges.length cc, .int .i64 p.line, .int .i64 p.col]) := hid fun W b => X1.on b
  have FL : Hid (∀ W, Below w1.heap.size w1 W → Fl kf W) := hid fun W b => by rw [hkf]; exact fl_new hw1 b
  have KF : Hid (w.heap.size ≤ kf) := hid (by omega)
  have C2 : Hid (∀ W, Below w1.heap.size w1 W → W.cell? ⟨k1, 8, none⟩ = some (.slice ma nM mc) ∧ W.cell? ⟨k1, 9, none⟩ = some (.slice fa nF fc) ∧ W.cell? ⟨k1, 10, none⟩ = some (.slice ca nC cc) ∧ W.cell? ⟨k1, 11, none⟩ = some (.int .i64 p.line) ∧ W.cell? ⟨k1, 12, none⟩ = some (.int .i64 p.col)) := hid fun W b => by
    rw [hnM, hnF, hnC]; exact ⟨(X1.on b).cell 8 _ rfl, (X1.on b).cell 9 _ rfl, (X1.on b).cell 10 _ rfl, (X1.on b).cell 11 _ rfl, (X1.on b).cell 12 _ rfl⟩
  have L0 : Hid (∀ W, Below w1.heap.size w1 W → PlanLies W (planC p ma mc fa fc ca cc) p ma mc fa fc ca cc ∧ Below w.heap.size w W) :=
    hid fun W b => ⟨hp.on (bel_on b1 b), bel_on b1 b⟩
  have qM : nM ≤ 20000 := by rw [hnM]; exact h.cnt.1
  have qF : nF ≤ 20000 := by rw [hnF]; exact h.cnt.2.1
  have qC : nC ≤ 20000 := by rw [hnC]; exact h.cnt.2.2
  have uM : nM ≤ mc := by rw [hnM]; exact hp.meters.hcap
  have uF : nF ≤ fc := by rw [hnF]; exact hp.fees.hcap
  have uC : nC ≤ cc := by rw [hnC]; exact hp.charges.hcap
  obtain ⟨R, hR⟩ : ∃ R, R = wrongOf p := ⟨_, rfl⟩
  rw [← hR]
  obtain ⟨HE, hHE⟩ : ∃ H, H = headE p := ⟨_, rfl⟩
  have HR : Hid (R = if HE = 0 then (firstE (meterE p) (fun m => (m.line, m.col)) 0 (p.meters.drop 0)).getD (zM p) else (HE, p.line, p.col)) := hid (by rw [hR, wrong_getD, hHE, List.drop_zero])
  have cH := hid (fun (W : World) => horizon_any p ma mc fa fc ca cc W h.gd.days)
  rw [← hHE] at cH
  have cM := hid (fun (W : World) (i : Nat) (m : Meter) (hti : p.meters[i]? = some m) (bw : Below w1.heap.size w1 W) => checkM_any p ma mc fa fc ca cc i m W (hp.on (bel_on b1 bw)) hti (by have := h.cnt.1; omega))
  have cF := hid (fun (W : World) (i : Nat) (m : Fee) (hti : p.fees[i]? = some m) (bw : Below w1.heap.size w1 W) => checkF_any p ma mc fa fc ca cc i m W (hp.on (bel_on b1 bw)) hti h.gd (by have := h.cnt.2.1; omega))
  have cC := hid (fun (W : World) (i : Nat) (c : Charge) (hti : p.charges[i]? = some c) (bw : Below w1.heap.size w1 W) => charge_any p ma mc fa fc ca cc i c W (hp.on (bel_on b1 bw)) hti h.gd (by have := h.cnt.2.2; omega) (h.parts c (List.mem_of_getElem? hti)).1)
  have cB := hid (fun (W : World) (hc : Chs p) (bw : Below w1.heap.size w1 W) => bound_any p ma mc fa fc ca cc W (hp.on (bel_on b1 bw)) hc)
  have HnM := hid hnM
  have HnF := hid hnF
  have HnC := hid hnC
  have H := hid h
  have HW0 := hid hw0
  have HW1 := hid hw1
  have HK := hid hk1
  have HKF := hid kfe
  have RP := hid (range_of X1.cell)
  clear hR hnM hnF hnC hp b0 b01 b1 X0 X1 hw0 hw1 hk1 h hHE hkf kfe
  go_enter Try.func7, Try.ntmps7
  go_upto_region 1 with fail
  rw [← HW0.out, ← HW1.out, ← HKF.out, ← HK.out]
  clear HW0 HW1 HK HKF
  go_wp2_with (first | (with_reducible refine wpList_load_mid (op := Oper.mk (some 15) (Op.load 29 (Operand.tmp 1)) _ _ _ _) ?_ 29 (.tmp 1) ?_ k1 0 ?_ [.string p.name, .string p.cur, .int .i64 p.a.y, .int .i64 p.a.m, .int .i64 p.a.d, .int .i64 p.b.y, .int .i64 p.b.m, .int .i64 p.b.d, .slice ma p.meters.length mc, .slice fa p.fees.length fc, .slice ca p.charges.length cc, .int .i64 p.line, .int .i64 p.col] _ RP.out Try.underlying29 ?_ ?_ ?_; rfl; rfl; go_simp; rfl; kernel_rfl) | fail)
  refine (cH.out w1).mono ?_
  rintro e w2 ⟨rfl, b2⟩
  have B2 := hid b2
  clear b2 cH RP
  obtain ⟨c8, c9, c10, c11, c12⟩ := C2.out w2 B2.out
  clear c9 c10
  by_cases g1 : HE = 0
  rotate_left
  case neg =>
    have E : Hid (R = (HE, p.line, p.col)) := hid (by rw [HR.out, if_neg g1])
    have gb : (HE == 0) = false := by simpa using g1
    clear c8 HR
    obtain ⟨q0, q1, q2, g0, g1, g2⟩ := FL.out w2 B2.out
    have BF := hid (L0.out _ B2.out).2
    go_wp2
    exact bodyPost_ret (v := .agg #[.int .i64 HE, .int .i64 p.line, .int .i64 p.col]) (by simp [results, Try.results7, go_sem, *]) rfl (ret_f E.out (((BF.out.setCell KF.out _).setCell KF.out _).setCell KF.out _))
  have E0 : Hid (R = (firstE (meterE p) (fun m => (m.line, m.col)) 0 (p.meters.drop 0)).getD (zM p)) := hid (by rw [HR.out, if_pos g1])
  clear HR c11 c12
  subst g1
  go_wp2
  clear c8
  go_loopw [28] (fun i wx => ∃ (i' : Nat), i = .int .i64 (i' : Int) ∧ i' ≤ nM ∧ Hid (R = (firstE (meterE p) (fun m => (m.line, m.col)) i' (p.meters.drop i')).getD (zM p)) ∧ Hid (Below w1.heap.size w1 wx)) (fun i _ => nM - (intOf i).toNat)
  case atStart => exact ⟨0, rfl, Nat.zero_le _, E0, B2⟩
  case round =>
    clear E0 B2
    obtain ⟨i', rfl, hi, hE, hB⟩ := hrel
    by_cases hlt : i' < nM
    · obtain ⟨x, hti⟩ : ∃ m, p.meters[i']? = some m := ⟨_, List.getElem?_eq_getElem (by have := HnM.out; omega)⟩
      have ST := hid (firstE_step (f := meterE p) (pl := fun m => (m.line, m.col)) hti)
      obtain ⟨b, o, e, lb, a0, a1, a2, a3, a4, _⟩ := meter_at (L0.out _ hB.out).1.meters hti
      obtain ⟨wt, hwt⟩ : ∃ W, W = wr.alloc (.cells [.string x.name, .string x.unit, .int .i64 x.max, .int .i64 x.line, .int .i64 x.col].toArray 49) := ⟨_, rfl⟩
      have xt : Box wt wr.heap.size [.string x.name, .string x.unit, .int .i64 x.max, .int .i64 x.line, .int .i64 x.col] := by rw [hwt]; exact Box.new _ _ _
      have bt : Below wr.heap.size wr wt := by rw [hwt]; exact bel_alloc _ _
      have BT := hid (bel_on hB.out bt)
      obtain ⟨kx, hkx⟩ : ∃ k, k = wr.heap.size := ⟨_, rfl⟩
      rw [← hkx] at xt
      have XT := hid xt
      have HWT := hid hwt
      have HKX := hid hkx
      have cx := cM.out wt i' x hti BT.out
      obtain ⟨XE, hXE⟩ : ∃ z, z = meterE p i' x := ⟨_, rfl⟩
      rw [← hXE] at cx ST
      clear hXE hti hwt hkx xt bt hB
      subst e
      go_upto_region 7 with fail
      rw [← HWT.out, ← HKX.out]
      clear HWT HKX lb a0 a1 a2 a3 a4
      have RP := hid (range_of (C.out wt BT.out).cell)
      go_wp2_with (first | (with_reducible refine wpList_load_mid (op := Oper.mk (some 33) (Op.load 29 (Operand.tmp 1)) _ _ _ _) ?_ 29 (.tmp 1) ?_ k1 0 ?_ [.string p.name, .string p.cur, .int .i64 p.a.y, .int .i64 p.a.m, .int .i64 p.a.d, .int .i64 p.b.y, .int .i64 p.b.m, .int .i64 p.b.d, .slice (some ⟨b, o, none⟩) p.meters.length mc, .slice fa p.fees.length fc, .slice ca p.charges.length cc, .int .i64 p.line, .int .i64 p.col] _ RP.out Try.underlying29 ?_ ?_ ?_; rfl; rfl; go_simp; rfl; kernel_rfl) | fail)
      refine cx.mono ?_
      rintro e wu ⟨rfl, bu⟩
      have Y := hid (XT.out.on bu)
      have BW := hid (bel_on BT.out bu)
      clear bu cx RP XT BT
      by_cases gx : XE = 0
      · have E : Hid (R = (firstE (meterE p) (fun m => (m.line, m.col)) (i' + 1) (p.meters.drop (i' + 1))).getD (zM p)) := hid (by rw [hE.out, ST.out, if_pos gx])
        clear hE ST
        subst gx
        go_wp2
        go_roundw
        case rel => exact ⟨i' + 1, by simp, by omega, E, BW⟩
        case measure => simp [intOf]; omega
      · have E : Hid (R = (XE, x.line, x.col)) := hid (by rw [hE.out, ST.out, if_neg gx]; rfl)
        have gb : (XE == 0) = false := by simpa using gx
        have t1 := Y.out.cell 3 _ rfl
        have t2 := Y.out.cell 4 _ rfl
        clear hE ST
        obtain ⟨q0, q1, q2, g0, g1, g2⟩ := FL.out wu BW.out
        have BF := hid (L0.out _ BW.out).2
        go_wp2
        exact bodyPost_ret (v := .agg #[.int .i64 XE, .int .i64 x.line, .int .i64 x.col]) (by simp [results, Try.results7, go_sem, *]) rfl (ret_f E.out (((BF.out.setCell KF.out _).setCell KF.out _).setCell KF.out _))
    · obtain rfl : i' = nM := by omega
      have E0 : Hid (R = (firstE (feeE p) (fun m => (m.line, m.col)) 0 (p.fees.drop 0)).getD (zF9 p)) := hid (by rw [hE.out, firstE_end (by have := HnM.out; omega), List.drop_zero]; rfl)
      obtain ⟨c8, c9, c10, c11, c12⟩ := C2.out _ hB.out
      clear c8 c10 c11 c12 hE hlt hi
      obtain ⟨wq, hwq⟩ : ∃ W, W = wr := ⟨_, rfl⟩
      rw [← hwq] at hB c9 ⊢
      have B2 := hB
      clear hwq hB
      go_wp2
      clear c9
      go_loopw [48] (fun i wx => ∃ (j' : Nat), i = .int .i64 (j' : Int) ∧ j' ≤ nF ∧ Hid (R = (firstE (feeE p) (fun m => (m.line, m.col)) j' (p.fees.drop j')).getD (zF9 p)) ∧ Hid (Below w1.heap.size w1 wx)) (fun i _ => nF - (intOf i).toNat)
      case atStart => exact ⟨0, rfl, Nat.zero_le _, E0, B2⟩
      case round =>
        clear E0 B2
        obtain ⟨j', rfl, hi, hE, hB⟩ := hrel
        by_cases hlt : j' < nF
        · obtain ⟨x, hti⟩ : ∃ m, p.fees[j']? = some m := ⟨_, List.getElem?_eq_getElem (by have := HnF.out; omega)⟩
          have ST := hid (firstE_step (f := feeE p) (pl := fun m => (m.line, m.col)) hti)
          obtain ⟨b, o, e, lb, a0, a1, a2, a3, a4, a5, a6, a7, a8, a9, _⟩ := fee_at (L0.out _ hB.out).1.fees hti
          obtain ⟨wt, hwt⟩ : ∃ W, W = wr.alloc (.cells [.int .i64 x.amount, .bool x.win.has, .int .i64 x.win.a.y, .int .i64 x.win.a.m, .int .i64 x.win.a.d, .int .i64 x.win.b.y, .int .i64 x.win.b.m, .int .i64 x.win.b.d, .int .i64 x.line, .int .i64 x.col].toArray 54) := ⟨_, rfl⟩
          have xt : Box wt wr.heap.size [.int .i64 x.amount, .bool x.win.has, .int .i64 x.win.a.y, .int .i64 x.win.a.m, .int .i64 x.win.a.d, .int .i64 x.win.b.y, .int .i64 x.win.b.m, .int .i64 x.win.b.d, .int .i64 x.line, .int .i64 x.col] := by rw [hwt]; exact Box.new _ _ _
          have bt : Below wr.heap.size wr wt := by rw [hwt]; exact bel_alloc _ _
          have BT := hid (bel_on hB.out bt)
          obtain ⟨kx, hkx⟩ : ∃ k, k = wr.heap.size := ⟨_, rfl⟩
          rw [← hkx] at xt
          have XT := hid xt
          have HWT := hid hwt
          have HKX := hid hkx
          have cx := cF.out wt j' x hti BT.out
          obtain ⟨XE, hXE⟩ : ∃ z, z = feeE p j' x := ⟨_, rfl⟩
          rw [← hXE] at cx ST
          clear hXE hti hwt hkx xt bt hB
          subst e
          go_upto_region 14 with fail
          rw [← HWT.out, ← HKX.out]
          clear HWT HKX lb a0 a1 a2 a3 a4 a5 a6 a7 a8 a9
          have RP := hid (range_of (C.out wt BT.out).cell)
          go_wp2_with (first | (with_reducible refine wpList_load_mid (op := Oper.mk (some 53) (Op.load 29 (Operand.tmp 1)) _ _ _ _) ?_ 29 (.tmp 1) ?_ k1 0 ?_ [.string p.name, .string p.cur, .int .i64 p.a.y, .int .i64 p.a.m, .int .i64 p.a.d, .int .i64 p.b.y, .int .i64 p.b.m, .int .i64 p.b.d, .slice ma p.meters.length mc, .slice (some ⟨b, o, none⟩) p.fees.length fc, .slice ca p.charges.length cc, .int .i64 p.line, .int .i64 p.col] _ RP.out Try.underlying29 ?_ ?_ ?_; rfl; rfl; go_simp; rfl; kernel_rfl) | fail)
          refine cx.mono ?_
          rintro e wu ⟨rfl, bu⟩
          have Y := hid (XT.out.on bu)
          have BW := hid (bel_on BT.out bu)
          clear bu cx RP XT BT
          by_cases gx : XE = 0
          · have E : Hid (R = (firstE (feeE p) (fun m => (m.line, m.col)) (j' + 1) (p.fees.drop (j' + 1))).getD (zF9 p)) := hid (by rw [hE.out, ST.out, if_pos gx])
            clear hE ST
            subst gx
            go_wp2
            go_roundw
            case rel => exact ⟨j' + 1, by simp, by omega, E, BW⟩
            case measure => simp [intOf]; omega
          · have E : Hid (R = (XE, x.line, x.col)) := hid (by rw [hE.out, ST.out, if_neg gx]; rfl)
            have gb : (XE == 0) = false := by simpa using gx
            have t1 := Y.out.cell 8 _ rfl
            have t2 := Y.out.cell 9 _ rfl
            clear hE ST
            obtain ⟨q0, q1, q2, g0, g1, g2⟩ := FL.out wu BW.out
            have BF := hid (L0.out _ BW.out).2
            go_wp2
            exact bodyPost_ret (v := .agg #[.int .i64 XE, .int .i64 x.line, .int .i64 x.col]) (by simp [results, Try.results7, go_sem, *]) rfl (ret_f E.out (((BF.out.setCell KF.out _).setCell KF.out _).setCell KF.out _))
        · obtain rfl : j' = nF := by omega
          have E0 : Hid (R = (firstE (chE p) (fun m => (m.line, m.col)) 0 (p.charges.drop 0)).getD (zC p)) := hid (by rw [hE.out, firstE_end (by have := HnF.out; omega), List.drop_zero]; rfl)
          have E00 : Hid (firstE (chE p) (fun m => (m.line, m.col)) 0 (p.charges.drop 0) = firstE (chE p) (fun m => (m.line, m.col)) 0 p.charges) := hid (by rw [List.drop_zero])
          obtain ⟨c8, c9, c10, c11, c12⟩ := C2.out _ hB.out
          clear c8 c9 c11 c12 hE hlt hi
          obtain ⟨wz, hwz⟩ : ∃ W, W = wr := ⟨_, rfl⟩
          rw [← hwz] at hB c10 ⊢
          have B2 := hB
          clear hwz hB
          go_wp2
          clear c10
          go_loopw [68] (fun i wx => ∃ (l' : Nat), i = .int .i64 (l' : Int) ∧ l' ≤ nC ∧ Hid (R = (firstE (chE p) (fun m => (m.line, m.col)) l' (p.charges.drop l')).getD (zC p)) ∧ Hid (firstE (chE p) (fun m => (m.line, m.col)) l' (p.charges.drop l') = firstE (chE p) (fun m => (m.line, m.col)) 0 p.charges) ∧ Hid (Below w1.heap.size w1 wx)) (fun i _ => nC - (intOf i).toNat)
          case atStart => exact ⟨0, rfl, Nat.zero_le _, E0, E00, B2⟩
          case round =>
            clear E0 E00 B2
            obtain ⟨l', rfl, hi, hE, hF, hB⟩ := hrel
            by_cases hlt : l' < nC
            · obtain ⟨x, hti⟩ : ∃ m, p.charges[l']? = some m := ⟨_, List.getElem?_eq_getElem (by have := HnC.out; omega)⟩
              have ST := hid (firstE_step (f := chE p) (pl := fun m => (m.line, m.col)) hti)
              obtain ⟨b, o, ta, tc, aa, ac, e, ax, lx0⟩ := charge_at (L0.out _ hB.out).1.charges hti
              have r1 := hid (range_ch ax)
              unfold chargeC at r1
              obtain ⟨wt, hwt⟩ : ∃ W, W = wr.alloc (.cells [.string x.meter, .bool x.win.has, .int .i64 x.win.a.y, .int .i64 x.win.a.m, .int .i64 x.win.a.d, .int .i64 x.win.b.y, .int .i64 x.win.b.m, .int .i64 x.win.b.d, .int .i64 x.allowance, .int .i64 x.block, .int .i64 x.kind, .slice ta x.tiers.length tc, .int .i64 x.mode, .slice aa x.adjusts.length ac, .int .i64 x.line, .int .i64 x.col].toArray 58) := ⟨_, rfl⟩
              have xt : Box wt wr.heap.size [.string x.meter, .bool x.win.has, .int .i64 x.win.a.y, .int .i64 x.win.a.m, .int .i64 x.win.a.d, .int .i64 x.win.b.y, .int .i64 x.win.b.m, .int .i64 x.win.b.d, .int .i64 x.allowance, .int .i64 x.block, .int .i64 x.kind, .slice ta x.tiers.length tc, .int .i64 x.mode, .slice aa x.adjusts.length ac, .int .i64 x.line, .int .i64 x.col] := by rw [hwt]; exact Box.new _ _ _
              have bt : Below wr.heap.size wr wt := by rw [hwt]; exact bel_alloc _ _
              have BT := hid (bel_on hB.out bt)
              obtain ⟨kx, hkx⟩ : ∃ k, k = wr.heap.size := ⟨_, rfl⟩
              rw [← hkx] at xt
              have XT := hid xt
              have HWT := hid hwt
              have HKX := hid hkx
              have cx := cC.out wt l' x hti BT.out
              obtain ⟨XE, hXE⟩ : ∃ z, z = chE p l' x := ⟨_, rfl⟩
              rw [← hXE] at cx ST
              clear hXE hti hwt hkx xt bt hB ax lx0
              subst e
              go_upto_region 21 with (first | (with_reducible refine wpList_load_mid (op := Oper.mk (some 72) (Op.load 58 (Operand.tmp 71)) _ _ _ _) ?_ 58 (.tmp 71) ?_ b (o + l' * 16) ?_ [.string x.meter, .bool x.win.has, .int .i64 x.win.a.y, .int .i64 x.win.a.m, .int .i64 x.win.a.d, .int .i64 x.win.b.y, .int .i64 x.win.b.m, .int .i64 x.win.b.d, .int .i64 x.allowance, .int .i64 x.block, .int .i64 x.kind, .slice ta x.tiers.length tc, .int .i64 x.mode, .slice aa x.adjusts.length ac, .int .i64 x.line, .int .i64 x.col] _ r1.out Try.underlying58 ?_ ?_ ?_; rfl; rfl; go_simp; rfl; kernel_rfl) | (with_reducible refine wpList_store_new (op := Oper.mk none (Op.store 58 (Operand.tmp 11) (Operand.tmp 72)) _ _ _ _) ?_ 58 (.tmp 11) (.tmp 72) ?_ wr _ #[.string x.meter, .bool x.win.has, .int .i64 x.win.a.y, .int .i64 x.win.a.m, .int .i64 x.win.a.d, .int .i64 x.win.b.y, .int .i64 x.win.b.m, .int .i64 x.win.b.d, .int .i64 x.allowance, .int .i64 x.block, .int .i64 x.kind, .slice ta x.tiers.length tc, .int .i64 x.mode, .slice aa x.adjusts.length ac, .int .i64 x.line, .int .i64 x.col] ?_ ?_ ?_ ?_ ?_ ?_; rfl; rfl; go_simp; go_simp; kernel_rfl; rfl; (simp [Value.oneCell'])) | fail)
              rw [← HWT.out, ← HKX.out]
              clear HWT HKX r1
              have RP := hid (range_of (C.out wt BT.out).cell)
              go_wp2_with (first | (with_reducible refine wpList_load_mid (op := Oper.mk (some 73) (Op.load 29 (Operand.tmp 1)) _ _ _ _) ?_ 29 (.tmp 1) ?_ k1 0 ?_ [.string p.name, .string p.cur, .int .i64 p.a.y, .int .i64 p.a.m, .int .i64 p.a.d, .int .i64 p.b.y, .int .i64 p.b.m, .int .i64 p.b.d, .slice ma p.meters.length mc, .slice fa p.fees.length fc, .slice (some ⟨b, o, none⟩) p.charges.length cc, .int .i64 p.line, .int .i64 p.col] _ RP.out Try.underlying29 ?_ ?_ ?_; rfl; rfl; go_simp; rfl; kernel_rfl) | fail)
              refine cx.mono ?_
              rintro e wu ⟨rfl, bu⟩
              have Y := hid (XT.out.on bu)
              have BW := hid (bel_on BT.out bu)
              clear bu cx RP XT BT
              by_cases gx : XE = 0
              · have E : Hid (R = (firstE (chE p) (fun m => (m.line, m.col)) (l' + 1) (p.charges.drop (l' + 1))).getD (zC p)) := hid (by rw [hE.out, ST.out, if_pos gx])
                have F : Hid (firstE (chE p) (fun m => (m.line, m.col)) (l' + 1) (p.charges.drop (l' + 1)) = firstE (chE p) (fun m => (m.line, m.col)) 0 p.charges) := hid (by rw [← hF.out, ST.out, if_pos gx])
                clear hE hF ST
                subst gx
                go_wp2
                go_roundw
                case rel => exact ⟨l' + 1, by simp, by omega, E, F, BW⟩
                case measure => simp [intOf]; omega
              · have E : Hid (R = (XE, x.line, x.col)) := hid (by rw [hE.out, ST.out, if_neg gx]; rfl)
                have gb : (XE == 0) = false := by simpa using gx
                have t1 := Y.out.cell 14 _ rfl
                have t2 := Y.out.cell 15 _ rfl
                clear hE hF ST
                obtain ⟨q0, q1, q2, g0, g1, g2⟩ := FL.out wu BW.out
                have BF := hid (L0.out _ BW.out).2
                go_wp2
                exact bodyPost_ret (v := .agg #[.int .i64 XE, .int .i64 x.line, .int .i64 x.col]) (by simp [results, Try.results7, go_sem, *]) rfl (ret_f E.out (((BF.out.setCell KF.out _).setCell KF.out _).setCell KF.out _))
            · obtain rfl : l' = nC := by omega
              have EN : firstE (chE p) (fun m => (m.line, m.col)) 0 p.charges = none := by rw [← hF.out, firstE_end (by have := HnC.out; omega)]
              have E0 : Hid (R = zC p) := hid (by rw [hE.out, firstE_end (by have := HnC.out; omega)]; rfl)
              have cBx := cB.out wr (chs_of H.out EN) hB.out
              have RP := hid (range_of (C.out _ hB.out).cell)
              obtain ⟨O, hO⟩ : ∃ O, O = boundOf p := ⟨_, rfl⟩
              rw [← hO] at cBx
              have E1 : Hid (R = if O = none then (6, p.line, p.col) else (0, 0, 0)) := hid (by rw [E0.out, hO]; rfl)
              obtain ⟨XV, hXV⟩ : ∃ x, x = O.getD 0 := ⟨_, rfl⟩
              obtain ⟨XB, hXB⟩ : ∃ x, x = O.isSome := ⟨_, rfl⟩
              rw [← hXV, ← hXB] at cBx
              have HXB := hid hXB
              clear EN E0 hO hE hF hlt hi hXV hXB
              go_wp2_with (first | (with_reducible refine wpList_load_mid (op := Oper.mk (some 86) (Op.load 29 (Operand.tmp 1)) _ _ _ _) ?_ 29 (.tmp 1) ?_ k1 0 ?_ [.string p.name, .string p.cur, .int .i64 p.a.y, .int .i64 p.a.m, .int .i64 p.a.d, .int .i64 p.b.y, .int .i64 p.b.m, .int .i64 p.b.d, .slice ma p.meters.length mc, .slice fa p.fees.length fc, .slice ca p.charges.length cc, .int .i64 p.line, .int .i64 p.col] _ RP.out Try.underlying29 ?_ ?_ ?_; rfl; rfl; go_simp; rfl; kernel_rfl) | fail)
              refine cBx.mono ?_
              rintro e wu ⟨rfl, bu⟩
              have BW := hid (bel_on hB.out bu)
              clear bu cBx RP hB
              by_cases gx : XB = false
              · have E : Hid (R = (6, p.line, p.col)) := hid (by rw [E1.out, if_pos]; have := HXB.out; rw [gx] at this; cases O with | none => rfl | some y => cases this)
                obtain ⟨c8, c9, c10, c11, c12⟩ := C2.out _ BW.out
                clear c8 c9 c10 E1 HXB
                subst gx
                obtain ⟨q0, q1, q2, g0, g1, g2⟩ := FL.out wu BW.out
                have BF := hid (L0.out _ BW.out).2
                go_wp2
                exact bodyPost_ret (v := .agg #[.int .i64 6, .int .i64 p.line, .int .i64 p.col]) (by simp [results, Try.results7, go_sem, *]) rfl (ret_f E.out (((BF.out.setCell KF.out _).setCell KF.out _).setCell KF.out _))
              obtain rfl : XB = true := by simpa using gx
              have E : Hid (R = (0, 0, 0)) := hid (by rw [E1.out, if_neg]; intro hn; have := HXB.out; rw [hn] at this; cases this)
              clear E1 HXB
              obtain ⟨q0, q1, q2, g0, g1, g2⟩ := FL.out wu BW.out
              have BF := hid (L0.out _ BW.out).2
              go_wp2
              exact bodyPost_ret (v := .agg #[.int .i64 0, .int .i64 0, .int .i64 0]) (by simp [results, Try.results7, go_sem, *]) rfl (ret_f E.out (((BF.out.setCell KF.out _).setCell KF.out _).setCell KF.out _))
end Go.Proofs.Ytnhhhnngocdagaa.Cc
/- Rows that are owned: one is turned, in its block or in a new one; one more. -/
namespace Go.Proofs.Ytnhhhnngocdagaa.Mm
open Go.RowKit P R6
/-- One row is turned, in its block or in a new one. -/
theorem Owns.turn {W W' : World} {base H : Nat} {ρ ρ' : Slot → Option R} (h : Owns W base ρ) {σ : Slot} {r r' : R} (hσ : ρ σ = some r) (hσ' : ρ' σ = some r') (he : ∀ s, s ≠ σ → ρ' s = ρ s)
    (hg : W.grownBy W' r.v.ownBlock) (ho : W'.ownsRow base r'.e r'.size r'.v r'.n r'.xs) (hat : r'.v.ownBlock = r.v.ownBlock ∨ r'.v.ownBlock = some H) (hH : W.heap.size ≤ H) : Owns W' base ρ' := by
  have oth := h.others hσ hg
  have far : ∀ t q k, t ≠ σ → ρ t = some q → q.v.ownBlock = some k → r'.v.ownBlock = some k → False := fun t q k hne hq hk hk' => by
    rcases hat with e | e
    · exact hne (h.apart t σ q r k hq hσ hk (e ▸ hk'))
    · rw [e] at hk'
      have := Option.some.inj hk'
      have := ((h.own t q hq).lt k hk).2
      omega
  refine ⟨fun s q hs => ?_, fun s t q q' k hs ht hk hk' => ?_⟩
  · by_cases e : s = σ
    · subst e
      rw [hσ'] at hs
      obtain rfl := Option.some.inj hs
      exact ho
    · rw [he s e] at hs
      exact oth s q e hs
  · by_cases e : s = σ <;> by_cases e2 : t = σ
    · rw [e, e2]
    · subst e
      rw [hσ'] at hs
      obtain rfl := Option.some.inj hs
      rw [he t e2] at ht
      exact (far t q' k e2 ht hk' hk).elim
    · subst e2
      rw [hσ'] at ht
      obtain rfl := Option.some.inj ht
      rw [he s e] at hs
      exact (far s q k e hs hk hk').elim
    · rw [he s e] at hs
      rw [he t e2] at ht
      exact h.apart s t q q' k hs ht hk hk'
/-- One row more. -/
theorem Owns.add {W : World} {base S : Nat} {ρ ρ' : Slot → Option R} (h : Owns W base ρ) {σ : Slot} {r : R} (hσ' : ρ' σ = some r) (he : ∀ s, s ≠ σ → ρ' s = ρ s)
    (ho : W.ownsRow S r.e r.size r.v r.n r.xs) (hS : base ≤ S) (far : ∀ t q k, t ≠ σ → ρ t = some q → q.v.ownBlock = some k → r.v.ownBlock ≠ some k) : Owns W base ρ' := by
  refine ⟨fun s q hs => ?_, fun s t q q' k hs ht hk hk' => ?_⟩
  · by_cases e : s = σ
    · subst e
      rw [hσ'] at hs
      obtain rfl := Option.some.inj hs
      exact ho.mono hS
    · rw [he s e] at hs
      exact h.own s q hs
  · by_cases e : s = σ <;> by_cases e2 : t = σ
    · rw [e, e2]
    · subst e
      rw [hσ'] at hs
      obtain rfl := Option.some.inj hs
      rw [he t e2] at ht
      exact (far t q' k e2 ht hk' hk).elim
    · subst e2
      rw [hσ'] at ht
      obtain rfl := Option.some.inj ht
      rw [he s e] at hs
      exact (far s q k e hs hk hk').elim
    · rw [he s e] at hs
      rw [he t e2] at ht
      exact h.apart s t q q' k hs ht hk hk'
def zeroP : List Value := planC planZ none 0 none 0 none 0
end Go.Proofs.Ytnhhhnngocdagaa.Mm
/- What the document's answers for layer 4 (poundageref04) come to: digit, Of. -/
namespace Go.Proofs.Ytnhhhnngocdagaa.R4
open Go.RowKit P
/-- A letter that is a digit, as a number. -/
def dgI (x : Int) : Bool := decide (48 ≤ x ∧ x ≤ 57)
theorem dgI_of (b : UInt8) : dgI ((b.toNat : Nat) : Int) = isDg b := by unfold dgI isDg; rw [decide_eq_decide]; omega
theorem digit_any (x : Int) (w : World) : Calls Try.prog 92 #[.int .u8 x] w fun e w' => e = .returned (.bool (dgI x)) ∧ w' = w := by
  rcases Decidable.em (48 ≤ x) with h | h
  · have b : decide (48 ≤ x) = true := decide_eq_true h
    have e : dgI x = decide (x ≤ 57) := by unfold dgI; rw [decide_eq_decide]; omega
    have E := hid e
    clear e
    go_enter Try.func92, Try.ntmps92
    go_wp2
    go_ret
    exact ⟨ret_b E.out.symm, rfl⟩
  · have b : decide (48 ≤ x) = false := decide_eq_false h
    have e : dgI x = false := by unfold dgI; rw [decide_eq_false_iff_not]; omega
    have E := hid e
    clear e
    go_enter Try.func92, Try.ntmps92
    go_wp2
    go_ret
    exact ⟨ret_b E.out.symm, rfl⟩
theorem byte_at (s : ByteArray) (i : Int) (h0 : 0 ≤ i) (h1 : i < s.size) (W : World) : (Instr.index 9 (.string s) (.int .i64 i)).run Try.prog W = .ok (.int .u8 ((s.data.toList.getD i.toNat 0).toNat : Int)) W := by
  have hl : i.toNat < s.data.toList.length := by show _ < s.size; omega
  have hb : s.data.toList[i.toNat]'hl = s[i.toNat]'(by omega) := by rw [Array.getElem_toList]; rfl
  rw [run_index_string W 9 s .i64 i Try.underlying9, dif_pos ⟨h0, h1⟩, List.getD_eq_getElem?_getD, List.getElem?_eq_getElem hl, hb, Option.getD_some]
set_option maxHeartbeats 2000000 in
theorem of_any (s : ByteArray) (w : World) (hs : s.size ≤ 9223372036854775807) : Calls Try.prog 66 #[.string s] w fun e w' => e = .returned (.int .i64 (fm s.data.toList)) ∧ w' = w := by
  obtain ⟨l, hl⟩ : ∃ l, l = s.data.toList := ⟨_, rfl⟩
  have hbyte := byte_at s
  have hz : l.length = s.size := by rw [hl]; simp
  have htl : s.toList = l := by rw [Lib.toList_data, hl]
  rw [← hl]
  rw [← hl] at hbyte
  clear hl
  by_cases h0 : l.length = 0
  · have hn : l = [] := List.length_eq_zero_iff.1 h0
    subst hn
    go_enter Try.func66, Try.ntmps66
    go_wp2
    go_ret
    exact ⟨ret_i (by rw [fm_empty]; rfl), rfl⟩
  · have x0 := hbyte 0 (by omega) (by omega)
    have hne : (l == []) = false := by
      rw [beq_eq_false_iff_ne]
      rintro rfl
      exact h0 rfl
    cases hd : isDg (l.getD 0 0)
    · have hf := hid (fm_first hd)
      rw [← dgI_of] at hd
      obtain ⟨x, hx⟩ : ∃ x : Int, x = ((l.getD 0 0).toNat : Int) := ⟨_, rfl⟩
      rw [← hx] at hd
      have x0' : ∀ W, (Instr.index 9 (.string s) (.int .i64 0)).run Try.prog W = .ok (.int .u8 x) W := fun W => by rw [hx]; exact x0 W
      clear x0 hx
      go_enter Try.func66, Try.ntmps66
      go_wp2_with (go_at_call 92; refine (digit_any _ _).mono ?_; rintro e w' ⟨rfl, h'⟩; rw [h'])
      go_ret
      exact ⟨ret_i (by rw [hf.out]; rfl), rfl⟩
    · have hd0 := hd
      rw [← dgI_of] at hd
      obtain ⟨x, hx⟩ : ∃ x : Int, x = ((l.getD 0 0).toNat : Int) := ⟨_, rfl⟩
      rw [← hx] at hd
      have x0' : ∀ W, (Instr.index 9 (.string s) (.int .i64 0)).run Try.prog W = .ok (.int .u8 x) W := fun W => by rw [hx]; exact x0 W
      have HX := hid hx
      have Hd0 := hid hd0
      clear x0 hx hd0
      go_enter Try.func66, Try.ntmps66
      go_wp2_with (go_at_call 92; refine (digit_any _ _).mono ?_; rintro e w' ⟨rfl, h'⟩; rw [h'])
      go_loop [3, 4] (fun p i => ∃ p' i' : Int, p = .int .i64 p' ∧ i = .int .i64 i' ∧ 0 ≤ i' ∧ 0 ≤ p' ∧ p' ≤ 1 ∧ i' ≤ s.size ∧ Hid (Seen l i'.toNat p'.toNat)) (fun _ i => ((s.size : Int) - intOf i).toNat)
      case atStart => exact ⟨0, 0, rfl, rfl, by omega, by omega, by omega, by omega, hid (Seen.start (by omega))⟩
      case round =>
        obtain ⟨p', i', rfl, rfl, i0, p0, p1, i1, S⟩ := hrel
        by_cases hi : i' < s.size
        · have hil : i'.toNat < l.length := by omega
          have hb := hbyte i' i0 hi
          have e1 : (i' + 1).toNat = i'.toNat + 1 := by omega
          have e2 : (p' + 1).toNat = p'.toNat + 1 := by omega
          have hlast : i' + 1 = s.size ↔ i'.toNat + 1 = l.length := by omega
          have hdg := dgI_of (l.getD i'.toNat 0)
          have h46 : ((l.getD i'.toNat 0).toNat : Int) = 46 ↔ l.getD i'.toNat 0 = 46 := by
            constructor
            · intro h; exact UInt8.toNat_inj.1 (by show _ = 46; omega)
            · intro h; rw [h]; rfl
          have S' := S.out
          have bad : evenBody l = false → Hid (fm l = 0) := fun h => hid (fm_body h)
          have f2 := fun a b => bad (S'.two hil a b)
          have f3 := fun a b => bad (ends_point (l := l) (i := i'.toNat) a b)
          have f4 := fun a b => bad (bad_letter hil a b)
          have g1 : isDg (l.getD i'.toNat 0) = true → Hid (Seen l (i' + 1).toNat p'.toNat) := fun h => hid (by rw [e1]; exact S'.digit hil h)
          have g2 : l.getD i'.toNat 0 = 46 → p'.toNat = 0 → i'.toNat + 1 ≠ l.length → Hid (Seen l (i' + 1).toNat (p' + 1).toNat) := fun a b c => hid (by rw [e1, e2]; exact S'.point hil a b c)
          obtain ⟨b, hb'⟩ : ∃ b, b = l.getD i'.toNat 0 := ⟨_, rfl⟩
          rw [← hb'] at hdg h46 f2 f3 f4 g1 g2
          simp only [← hb'] at hb
          obtain ⟨z, hz'⟩ : ∃ z : Int, z = (b.toNat : Int) := ⟨_, rfl⟩
          rw [← hz'] at hdg h46
          simp only [← hz'] at hb
          clear S' S e1 e2 bad hb' hz' hbyte
          by_cases hp : z = 46
          · have hp' := h46.1 hp
            have b1 : (z == 46) = true := by rw [hp]; rfl
            by_cases p2 : p' = 1
            · have hG := f2 hp' (by rw [p2]; rfl)
              clear f2 f3 f4 g1 g2 h46 hdg hlast
              subst p2
              go_wp2
              go_ret
              exact ⟨ret_i (by rw [hG.out]; rfl), rfl⟩
            · obtain rfl : p' = 0 := by omega
              by_cases hl : i' + 1 = s.size
              · have hG := f3 (hlast.1 hl) hp'
                have b2 : (i' == (s.size : Int) - 1) = true := by simp; omega
                clear f2 f3 f4 g1 g2 h46 hdg hlast
                go_wp2
                go_ret
                exact ⟨ret_i (by rw [hG.out]; rfl), rfl⟩
              · have hS := g2 hp' rfl (fun k => hl (hlast.2 k))
                have b2 : (i' == (s.size : Int) - 1) = false := by simp; omega
                clear f2 f3 f4 g1 g2 h46 hdg hlast
                go_wp2
                go_round
                case rel => exact ⟨_, i' + 1, rfl, rfl, by omega, by omega, by omega, by omega, hS⟩
                case measure => simp [intOf]; omega
          · have b1 : (z == 46) = false := by simpa using hp
            cases hD : isDg b
            · have hG := f4 hD (fun k => hp (h46.2 k))
              rw [hD] at hdg
              clear f2 f3 f4 g1 g2 h46 hlast
              go_wp2_with (go_at_call 92; refine (digit_any _ _).mono ?_; rintro e w' ⟨rfl, h'⟩; rw [h'])
              go_ret
              exact ⟨ret_i (by rw [hG.out]; rfl), rfl⟩
            · have hS := g1 hD
              rw [hD] at hdg
              clear f2 f3 f4 g1 g2 h46 hlast
              go_wp2_with (go_at_call 92; refine (digit_any _ _).mono ?_; rintro e w' ⟨rfl, h'⟩; rw [h'])
              go_round
              case rel => exact ⟨p', i' + 1, rfl, rfl, by omega, by omega, by omega, by omega, hS⟩
              case measure => simp [intOf]; omega
        · obtain rfl : i' = s.size := by omega
          have hS : Seen l l.length p'.toNat := by
            have := S.out
            rwa [show ((s.size : Int)).toNat = l.length by omega] at this
          obtain ⟨he, hc⟩ := hS.done
          have yes : oddHead l = false → Hid (fm l = 1 + p'.toNat) := fun h => hid (by rw [fm_is Hd0.out he h, hc])
          have no : oddHead l = true → Hid (fm l = 0) := fun h => hid (fm_head h)
          have c48 : (l.getD 0 0 == 48) = decide (x = 48) := by
            rw [Bool.eq_iff_iff, beq_iff_eq, decide_eq_true_eq, HX.out]
            constructor
            · intro h; rw [h]; rfl
            · intro h; exact UInt8.toNat_inj.1 (by show _ = 48; omega)
          have hp' : (1 : Int) + p' = ((1 + p'.toNat : Nat) : Int) := by omega
          by_cases hx : x = 48
          · by_cases hl1 : (1 : Int) < s.size
            · have hy := hbyte 1 (by omega) hl1
              have c46 : (l.getD 1 0 == 46) = decide (((l.getD 1 0).toNat : Int) = 46) := by
                rw [Bool.eq_iff_iff, beq_iff_eq, decide_eq_true_eq]
                constructor
                · intro h; rw [h]; rfl
                · intro h; exact UInt8.toNat_inj.1 (by show _ = 46; omega)
              obtain ⟨y, hy'⟩ : ∃ y : Int, y = ((l.getD 1 0).toNat : Int) := ⟨_, rfl⟩
              rw [← hy'] at c46
              have hy2 : ∀ W, (Instr.index 9 (.string s) (.int .i64 1)).run Try.prog W = .ok (.int .u8 y) W := fun W => by rw [hy']; exact hy W
              have b1 : (x == 48) = true := by simpa using hx
              have hll : decide (1 < l.length) = true := decide_eq_true (by omega)
              clear hy hy' hbyte S hS
              by_cases h46 : y = 46
              · have hG := yes (by unfold oddHead; rw [c48, hll, c46, decide_eq_true h46]; simp)
                have b2 : (y != 46) = false := by simpa using h46
                clear yes no c48 c46 HX Hd0 hd he hc
                go_wp2
                go_ret
                exact ⟨ret_i (by rw [hG.out]; omega), rfl⟩
              · have hG := no (by unfold oddHead; rw [c48, hll, c46, decide_eq_false h46, decide_eq_true hx]; rfl)
                have b2 : (y != 46) = true := by simpa using h46
                clear yes no c48 c46 HX Hd0 hd he hc
                go_wp2
                go_ret
                exact ⟨ret_i (by rw [hG.out]; rfl), rfl⟩
            · have hG := yes (by unfold oddHead; rw [decide_eq_false (show ¬ 1 < l.length by omega)]; simp)
              have b1 : (x == 48) = true := by simpa using hx
              clear yes no c48 HX Hd0 hd he hc hbyte S hS
              go_wp2
              go_ret
              exact ⟨ret_i (by rw [hG.out]; omega), rfl⟩
          · have hG := yes (by unfold oddHead; rw [c48, decide_eq_false hx]; rfl)
            have b1 : (x == 48) = false := by simpa using hx
            clear yes no c48 HX Hd0 hd he hc hbyte S hS
            go_wp2
            go_ret
            exact ⟨ret_i (by rw [hG.out]; omega), rfl⟩
end Go.Proofs.Ytnhhhnngocdagaa.R4
/- What the document's answers for layer 5 (poundageref05) come to: letter, Words. -/
namespace Go.Proofs.Ytnhhhnngocdagaa.R5
open Go.RowKit P R4
set_option maxHeartbeats 1000000 in
theorem letter_any (x : Int) (w : World) : Calls Try.prog 47 #[.int .u8 x] w fun e w' => e = .returned (.bool (ltI x)) ∧ w' = w := by
  go_enter Try.func47, Try.ntmps47
  go_wp2
  all_goals
    go_ret
    refine ⟨ret_b ?_, rfl⟩
    unfold ltI
    simp_all
    try (rw [Bool.eq_iff_iff]; simp only [Bool.or_eq_true, Bool.and_eq_true, beq_iff_eq, decide_eq_true_eq]; omega)
def wordCells : Array Value := (words.map fun l => Value.string ⟨l.toArray⟩).toArray
theorem words_any (w : World) : Calls Try.prog 65 #[] w fun e w' => e = .returned (.slice (some ⟨w.heap.size, 0, none⟩) 26 26) ∧ w' = w.alloc (.cells wordCells 9) := by
  go_enter Try.func65, Try.ntmps65
  go_wp2
  go_ret
  exact ⟨rfl, rfl⟩
theorem word_cell (w : World) (i : Nat) (hi : i < 26) : (w.alloc (.cells wordCells 9)).cell? ⟨w.heap.size, i, none⟩ = some (.string ⟨(words.getD i []).toArray⟩) := by
  have hl : i < words.length := hi
  rw [World.cell?_alloc_new]
  show wordCells[i]? = _
  unfold wordCells
  simp [List.getElem?_map, List.getElem?_eq_getElem hl]
end Go.Proofs.Ytnhhhnngocdagaa.R5
/- Reading a day's text letter by letter, as plain arithmetic: no program is named here. -/
namespace Go.Proofs.Ytnhhhnngocdagaa.P
open Go.RowKit
/-- Whether a letter is what must stand there. -/
def okAt (l : List UInt8) (i : Nat) : Bool := if i = 4 ∨ i = 7 then decide (l.getD i 0 = 45) else isD (l.getD i 0)
/-- What the digits up to there come to. -/
def nvl (l : List UInt8) : Nat → Nat
  | 0 => 0
  | i + 1 => if i = 4 ∨ i = 7 then nvl l i else 10 * nvl l i + ((l.getD i 0).toNat - 48)
theorem nvl_dash (l : List UInt8) {i : Nat} (h : i = 4 ∨ i = 7) : nvl l (i + 1) = nvl l i := by rw [nvl, if_pos h]
theorem nvl_dig (l : List UInt8) {i : Nat} (h : ¬ (i = 4 ∨ i = 7)) : nvl l (i + 1) = 10 * nvl l i + ((l.getD i 0).toNat - 48) := by rw [nvl, if_neg h]
theorem nvl_lt (l : List UInt8) : ∀ i, (∀ j, j < i → okAt l j = true) → nvl l i < 10 ^ i
  | 0, _ => by simp [nvl]
  | i + 1, h => by
    have ih := nvl_lt l i (fun j hj => h j (by omega))
    have hi := h i (by omega)
    rw [Nat.pow_succ]
    by_cases hd : i = 4 ∨ i = 7
    · rw [nvl_dash l hd]; omega
    · rw [nvl_dig l hd]
      unfold okAt at hi
      rw [if_neg hd] at hi
      have := isD_lt hi
      omega
theorem formed_iff {l : List UInt8} (hl : l.length = 10) : formed l = true ↔ ∀ j, j < 10 → okAt l j = true := by
  obtain ⟨a, b, c, d, e, f, g, i, j, k, rfl⟩ := ten hl
  constructor
  · intro h
    simp [formed] at h
    obtain ⟨⟨rfl, rfl⟩, ⟨ha, hb, hc, hd⟩, ⟨hf, hg⟩, hj, hk⟩ := h
    intro n hn
    have hn' : n = 0 ∨ n = 1 ∨ n = 2 ∨ n = 3 ∨ n = 4 ∨ n = 5 ∨ n = 6 ∨ n = 7 ∨ n = 8 ∨ n = 9 := by omega
    rcases hn' with rfl | rfl | rfl | rfl | rfl | rfl | rfl | rfl | rfl | rfl
    all_goals simp [okAt, *]
  · intro h
    have h0 := h 0 (by omega); have h1 := h 1 (by omega); have h2 := h 2 (by omega); have h3 := h 3 (by omega); have h4 := h 4 (by omega)
    have h5 := h 5 (by omega); have h6 := h 6 (by omega); have h7 := h 7 (by omega); have h8 := h 8 (by omega); have h9 := h 9 (by omega)
    simp [okAt] at h0 h1 h2 h3 h4 h5 h6 h7 h8 h9
    simp [formed, *]
theorem not_formed {l : List UInt8} {j : Nat} (hl : l.length = 10) (hj : j < 10) (h : okAt l j = false) : formed l = false := by
  rw [Bool.eq_false_iff]
  intro k
  have := (formed_iff hl).1 k j hj
  rw [h] at this
  cases this
theorem nvl_ten {l : List UInt8} (hl : l.length = 10) (h : formed l = true) : (nvl l 10 : Int) / 10000 = yearOf l ∧ (nvl l 10 : Int) / 100 % 100 = monthOf l ∧ (nvl l 10 : Int) % 100 = dayOf l := by
  obtain ⟨a, b, c, d, e, f, g, i, j, k, rfl⟩ := ten hl
  simp [formed] at h
  obtain ⟨⟨rfl, rfl⟩, ⟨ha, hb, hc, hd⟩, ⟨hf, hg⟩, hj, hk⟩ := h
  have l1 := isD_lt ha; have l2 := isD_lt hb; have l3 := isD_lt hc; have l4 := isD_lt hd
  have l5 := isD_lt hf; have l6 := isD_lt hg; have l7 := isD_lt hj; have l8 := isD_lt hk
  simp only [nvl, yearOf, monthOf, dayOf, List.take, List.drop, val, List.foldl, List.getD_cons_zero, List.getD_cons_succ, Nat.reduceEqDiff, or_true, true_or, or_self, reduceIte]
  omega
end Go.Proofs.Ytnhhhnngocdagaa.P
/- What the document's answers for layer 3 (poundageref03) come to: Parse. -/
namespace Go.Proofs.Ytnhhhnngocdagaa.R3
open Go.RowKit Go.Sort P
theorem parse_len (s : ByteArray) (w : World) (h : s.size ≠ 10) :
    Calls Try.prog 50 #[.string s] w fun e w' => e = .returned (.tuple #[.agg #[.int .i64 0, .int .i64 0, .int .i64 0], .bool false]) ∧ Below w.heap.size w w' := by
  have h1 : ((s.size : Int) != 10) = true := by simp; omega
  go_enter Try.func50, Try.ntmps50
  go_wp2
  exact bodyPost_ret (v := .tuple #[.agg #[.int .i64 0, .int .i64 0, .int .i64 0], .bool false]) (by simp [results, Try.results50, go_sem]) rfl ⟨rfl, (Below.refl _ _).alloc (Nat.le_refl _) _⟩
/-- A letter of the text, as the walk reads it. -/
theorem byte_at (s : ByteArray) (i : Int) (h0 : 0 ≤ i) (h1 : i < s.size) (W : World) : (Instr.index 9 (.string s) (.int .i64 i)).run Try.prog W = .ok (.int .u8 ((s.data.toList.getD i.toNat 0).toNat : Int)) W := by
  have hl : i.toNat < s.data.toList.length := by show _ < s.size; omega
  rw [run_index_string W 9 s .i64 i Try.underlying9, dif_pos ⟨h0, h1⟩, List.getD_eq_getElem?_getD, List.getElem?_eq_getElem hl, at_byte s i.toNat (by omega), Option.getD_some]
set_option maxHeartbeats 2000000 in
theorem parse_walk (s : ByteArray) (G : Ending) (w : World) (hs : s.size = 10)
    (hN : Hid (reads s.data.toList = false → .returned (.tuple #[.agg #[.int .i64 0, .int .i64 0, .int .i64 0], .bool false]) = G))
    (hY : Hid (reads s.data.toList = true → .returned (.tuple #[.agg #[.int .i64 (yearOf s.data.toList), .int .i64 (monthOf s.data.toList), .int .i64 (dayOf s.data.toList)], .bool true]) = G)) :
    Calls Try.prog 50 #[.string s] w fun e w' => e = G ∧ Below w.heap.size w w' := by
  have hl : s.data.toList.length = 10 := by simpa using hs
  have h1 : (s.size : Int) = 10 := by omega
  have B0 : Below w.heap.size w (w.alloc (.cells #[.int .i64 0, .int .i64 0, .int .i64 0] 24)) := (Below.refl _ _).alloc (Nat.le_refl _) _
  have hbyte := byte_at s
  obtain ⟨l, hlst⟩ : ∃ l, l = s.data.toList := ⟨_, rfl⟩
  rw [← hlst] at hN hY hl hbyte
  go_enter Try.func50, Try.ntmps50
  go_wp2
  go_loop [4, 5] (fun n i => ∃ n' i' : Int, n = .int .i64 n' ∧ i = .int .i64 i' ∧ 0 ≤ i' ∧ i' ≤ 10 ∧ Hid (n' = (nvl l i'.toNat : Int)) ∧ Hid (∀ j, j < i'.toNat → okAt l j = true)) (fun _ i => (10 - intOf i).toNat)
  case atStart => exact ⟨0, 0, rfl, rfl, by omega, by omega, rfl, hid (fun j hj => by simp at hj)⟩
  case round =>
    obtain ⟨n', i', rfl, rfl, i0, i1, hn, hok⟩ := hrel
    by_cases hi : i' < 10
    · have hx := hbyte i' i0 (by omega)
      obtain ⟨x, hxx⟩ : ∃ x : Int, x = ((l.getD i'.toNat 0).toNat : Int) := ⟨_, rfl⟩
      rw [← hxx] at hx
      have hlt := nvl_lt l i'.toNat hok.out
      have hpw : 10 ^ i'.toNat ≤ 10 ^ 9 := Nat.pow_le_pow_right (by decide) (by omega)
      have hn0 : 0 ≤ n' := by rw [hn.out]; omega
      have hn1 : n' < 1000000000 := by rw [hn.out]; omega
      have e1 : (i' + 1).toNat = i'.toNat + 1 := by omega
      have bad : okAt l i'.toNat = false → Hid (.returned (.tuple #[.agg #[.int .i64 0, .int .i64 0, .int .i64 0], .bool false]) = G) := fun k => hid (hN.out (by
        unfold reads
        rw [not_formed hl (by omega) k]
        rfl))
      have nxt : okAt l i'.toNat = true → Hid (∀ j, j < (i' + 1).toNat → okAt l j = true) := fun k => hid (fun j hj => by
        rcases Nat.lt_or_ge j i'.toNat with a | a
        · exact hok.out j a
        · rw [show j = i'.toNat by omega]; exact k)
      have hx0 : 0 ≤ x := by omega
      have hx1 : x ≤ 255 := by
        have := (l.getD i'.toNat 0).toNat_lt
        omega
      clear hlt hpw hbyte hN hY
      by_cases hd : i' = 4 ∨ i' = 7
      · have hd' : i'.toNat = 4 ∨ i'.toNat = 7 := by omega
        have hnv := nvl_dash l hd'
        by_cases h45 : x = 45
        · have k : okAt l i'.toNat = true := by
            unfold okAt
            rw [if_pos hd', decide_eq_true_eq]
            exact UInt8.toNat_inj.1 (by show _ = 45; omega)
          have K := nxt k
          have HN : Hid (n' = (nvl l (i' + 1).toNat : Int)) := hid (by rw [e1, hnv]; exact hn.out)
          clear bad nxt k hd' hnv hxx hn hok e1
          rcases hd with rfl | rfl
          all_goals
            subst h45
            go_wp2
            go_round
            case rel => exact ⟨n', _, rfl, rfl, by omega, by omega, HN, K⟩
            case measure => simp [intOf]
        · have k : okAt l i'.toNat = false := by
            unfold okAt
            rw [if_pos hd', decide_eq_false_iff_not]
            intro c
            rw [c] at hxx
            exact h45 hxx
          have hG := bad k
          have hne : (x != 45) = true := by simpa using h45
          clear bad nxt k hd' hnv hxx hn hok e1
          rcases hd with rfl | rfl
          all_goals
            go_wp2
            exact bodyPost_ret (v := .tuple #[.agg #[.int .i64 0, .int .i64 0, .int .i64 0], .bool false]) (by simp [results, Try.results50, go_sem, *]) rfl ⟨hG.out, B0⟩
      · have hd' : ¬ (i'.toNat = 4 ∨ i'.toNat = 7) := by omega
        have h4 : ¬ i' = 4 := by omega
        have h7 : ¬ i' = 7 := by omega
        have hnv := nvl_dig l hd'
        have h4b : (i' == 4) = false := by simpa using h4
        have h7b : (i' == 7) = false := by simpa using h7
        by_cases hdig : 48 ≤ x ∧ x ≤ 57
        · have k : okAt l i'.toNat = true := by
            unfold okAt isD
            rw [if_neg hd', decide_eq_true_eq]
            omega
          have K := nxt k
          have HN : Hid (10 * n' + (x - 48) = (nvl l (i' + 1).toNat : Int)) := hid (by rw [e1, hnv, hn.out]; omega)
          obtain ⟨hg0, hg1⟩ := hdig
          clear bad nxt k hd hd' hnv hxx hn hok e1
          go_wp2
          go_round
          case rel => exact ⟨_, i' + 1, rfl, rfl, by omega, by omega, HN, K⟩
          case measure => simp [intOf]; omega
        · have k : okAt l i'.toNat = false := by
            unfold okAt isD
            rw [if_neg hd', decide_eq_false_iff_not]
            omega
          have hG := bad k
          have hc : x < 48 ∨ (¬ x < 48 ∧ 57 < x) := by omega
          clear bad nxt k hd hd' hnv hxx hn hok e1 hdig
          rcases hc with hc | ⟨hc, hc2⟩
          all_goals
            go_wp2
            exact bodyPost_ret (v := .tuple #[.agg #[.int .i64 0, .int .i64 0, .int .i64 0], .bool false]) (by simp [results, Try.results50, go_sem, *]) rfl ⟨hG.out, B0⟩
    · obtain rfl : i' = 10 := by omega
      have hf : formed l = true := (formed_iff hl).2 (fun j hj => hok.out j (by simpa using hj))
      obtain ⟨ey, em, ed⟩ := nvl_ten hl hf
      have hnv : n' = (nvl l 10 : Int) := hn.out
      have hlt := nvl_lt l 10 (fun j hj => hok.out j (by simpa using hj))
      rw [← hnv] at ey em ed
      have hn0 : 0 ≤ n' := by omega
      have hn1 : n' < 10000000000 := by omega
      have er : reads l = good (yearOf l) (monthOf l) (dayOf l) := by unfold reads; rw [hf]; rfl
      have cG : ∀ W, Calls Try.prog 24 #[.agg #[.int .i64 (yearOf l), .int .i64 (monthOf l), .int .i64 (dayOf l)]] W fun e w' => e = .returned (.bool (good (yearOf l) (monthOf l) (dayOf l))) ∧ Below W.heap.size W w' := fun W => good_any _ _ _ W
      obtain ⟨Y, hY'⟩ : ∃ Y, Y = yearOf l := ⟨_, rfl⟩
      obtain ⟨M, hM'⟩ : ∃ M, M = monthOf l := ⟨_, rfl⟩
      obtain ⟨D, hD'⟩ : ∃ D, D = dayOf l := ⟨_, rfl⟩
      rw [← hY', ← hM', ← hD'] at er hY
      simp only [← hY', ← hM', ← hD'] at cG
      rw [← hY'] at ey; rw [← hM'] at em; rw [← hD'] at ed
      have LA : ∀ o, Lies3 ((w.alloc (.cells #[.int .i64 0, .int .i64 0, .int .i64 0] 24)).alloc o) w.heap.size (.int .i64 0) (.int .i64 0) (.int .i64 0) := fun o => (Lies3.new rfl).alloc o
      have hsz : (w.alloc (.cells #[.int .i64 0, .int .i64 0, .int .i64 0] 24)).heap.size = w.heap.size + 1 := by simp
      clear hok hn hf hlt hY' hM' hD' hnv hbyte hlst hl
      cases hg : good Y M D
      · rw [hg] at cG er
        have hG := hid (hN.out er)
        clear hN hY er
        go_wp2_with (go_at_call 24; refine (cG _).mono ?_; rintro e w2 ⟨rfl, b2⟩; have L2 := (LA _).on b2; have B2 := B0.trans ((box3 b2).2.2.2.2.mono B0.size); obtain ⟨l2, c0, c1, c2, f0, f1, f2⟩ := L2; clear LA B0 b2)
        exact bodyPost_ret (v := .tuple #[.agg #[.int .i64 0, .int .i64 0, .int .i64 0], .bool false]) (by simp [results, Try.results50, go_sem, *]) rfl
          ⟨hG.out, ((B2.setCell (Nat.le_refl _) _).setCell (Nat.le_refl _) _).setCell (Nat.le_refl _) _⟩
      · rw [hg] at cG er
        have hG := hid (hY.out er)
        clear hN hY er
        go_wp2_with (go_at_call 24; refine (cG _).mono ?_; rintro e w2 ⟨rfl, b2⟩; have L2 := (LA _).on b2; have LC := Lies3.later b2 hsz; have B2 := B0.trans ((box3 b2).2.2.2.2.mono B0.size); obtain ⟨l2, c0, c1, c2, f0, f1, f2⟩ := L2; obtain ⟨l4, k0, k1, k2, q0, q1, q2⟩ := LC; clear LA B0 b2)
        exact bodyPost_ret (v := .tuple #[.agg #[.int .i64 Y, .int .i64 M, .int .i64 D], .bool true]) (by simp [results, Try.results50, go_sem, *]) rfl
          ⟨hG.out, ((B2.setCell (Nat.le_refl _) _).setCell (Nat.le_refl _) _).setCell (Nat.le_refl _) _⟩
end Go.Proofs.Ytnhhhnngocdagaa.R3

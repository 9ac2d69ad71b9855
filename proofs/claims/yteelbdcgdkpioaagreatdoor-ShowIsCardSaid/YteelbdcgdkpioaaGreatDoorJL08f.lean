/- The document's answers for layer 8 (poundageref08): plans. -/
import Derived.Test.YteelbdcgdkpioaaGreatDoorJRef8b
import Derived.Test.YteelbdcgdkpioaaGreatDoorJSh9
import Derived.Test.YteelbdcgdkpioaaGreatDoorJMid
import Derived.Test.YteelbdcgdkpioaaGreatDoorJDate4
namespace Go.Proofs.YteelbdcgdkpioaaGreatDoor.R8
open Go.RowKit Go.Sort P Mm Md Sw

theorem lies_on {w w' : World} {c : Charge} {ta : Option Addr} {tc : Nat} {aa : Option Addr} {ac : Nat} (h : ChargeLies w (chargeC c ta tc aa ac) c ta tc aa ac) (b : Below w.heap.size w w') : ChargeLies w' (chargeC c ta tc aa ac) c ta tc aa ac := ⟨h.cells, h.tiers.on b, h.adjusts.on b, h.meter, h.win, h.nums⟩
theorem meter_text (m : Meter) : meterT m = ([109, 101, 116, 101, 114, 32] ++ m.name.data.toList ++ [32, 117, 110, 105, 116, 32] ++ m.unit.data.toList ++ [32, 109, 97, 120, 32]) ++ (nmbT m.max ++ [59, 10]) := by
  unfold meterT tellT ln
  rw [join6]
  simp [wMeter, wUnit, wMax]
theorem fee_text (f : Fee) : feeT f = ([102, 101, 101, 32] ++ nmbT f.amount) ++ (winT f.win ++ [59, 10]) := by
  unfold feeT tellT ln
  rw [join2]
  simp [wFee]
theorem top_text (p : Plan) : headT8 p = [112, 108, 97, 110, 32] ++ (p.name.data.toList ++ [32, 99, 117, 114, 114, 101, 110, 99, 121, 32] ++ p.cur.data.toList ++ [59, 10, 104, 111, 114, 105, 122, 111, 110, 32] ++ dayT p.a) ++ ([32] ++ dayT p.b ++ [59, 10]) := by
  unfold headT8 tellT ln
  rw [join4, join3]
  simp [wPlan, wCurrency, wHorizon]

set_option maxHeartbeats 16000000 in
set_option maxRecDepth 100000 in
theorem plan_any (p : Plan) (ma : Option Addr) (mc : Nat) (fa : Option Addr) (fc : Nat) (ca : Option Addr) (cc : Nat) (w : World) (hp : PlanLies w (planC p ma mc fa fc ca cc) p ma mc fa fc ca cc) (sp : Sh p) (hK : Kz w) :
    Calls Tryz.prog 13 #[.agg (planC p ma mc fa fc ca cc).toArray] w fun e w' => e = .returned (.string ⟨(planT p).toArray⟩) ∧ Below w.heap.size w w' := by
  have zH := headT8_len sp.name
  have zN := sp.name
  obtain ⟨X, hX⟩ : ∃ S : ByteArray, S = ⟨(dayT p.a).toArray⟩ := ⟨_, rfl⟩
  obtain ⟨Y, hY⟩ : ∃ S : ByteArray, S = ⟨(dayT p.b).toArray⟩ := ⟨_, rfl⟩
  have zX : X.size ≤ 10 := by rw [hX, ba_size]; exact dayT_len _
  have zY : Y.size ≤ 10 := by rw [hY, ba_size]; exact dayT_len _
  have cX := fun W => day3 p.a W
  have cY := fun W => day3 p.b W
  rw [← hX] at cX
  rw [← hY] at cY
  unfold dC at cX cY
  obtain ⟨w1, hw1⟩ : ∃ W, W = w.alloc (.cells (planC p ma mc fa fc ca cc).toArray 29) := ⟨_, rfl⟩
  have b1 : Below w.heap.size w w1 := by rw [hw1]; exact bel_alloc _ _
  obtain ⟨k1, hk1⟩ : ∃ k, k = w.heap.size := ⟨_, rfl⟩
  have X1 : Box w1 k1 (planC p ma mc fa fc ca cc) := by rw [hw1, hk1]; exact Box.new _ _ _
  have C : Hid (∀ W, Below w1.heap.size w1 W → W.cell? ⟨k1, 8, none⟩ = some (.slice ma p.meters.length mc) ∧ W.cell? ⟨k1, 9, none⟩ = some (.slice fa p.fees.length fc) ∧ W.cell? ⟨k1, 10, none⟩ = some (.slice ca p.charges.length cc)) :=
    hid fun W b => ⟨(X1.on b).cell 8 _ rfl, (X1.on b).cell 9 _ rfl, (X1.on b).cell 10 _ rfl⟩
  have L0 : Hid (∀ W, Below w1.heap.size w1 W → PlanLies W (planC p ma mc fa fc ca cc) p ma mc fa fc ca cc ∧ Kz W ∧ Below w.heap.size w W) :=
    hid fun W b => ⟨hp.on (bel_on b1 b), hK.later (bel_on b1 b), bel_on b1 b⟩
  obtain ⟨T, hT⟩ : ∃ L, L = headT8 p := ⟨_, rfl⟩
  have HT : Hid (planT p = T ++ p.meters.flatMap meterT ++ p.fees.flatMap feeT ++ p.charges.flatMap chargeT) := hid (by rw [hT]; rfl)
  have hV0 : Hid ((⟨#[112, 108, 97, 110, 32]⟩ : ByteArray) ++ p.name ++ ⟨#[32, 99, 117, 114, 114, 101, 110, 99, 121, 32]⟩ ++ p.cur ++ ⟨#[59, 10, 104, 111, 114, 105, 122, 111, 110, 32]⟩ ++ X ++ ⟨#[32]⟩ ++ Y ++ ⟨#[59, 10]⟩ = ⟨T.toArray⟩) := hid (by
    rw [hT, top_text, put4 (put6 (V := ⟨#[112, 108, 97, 110, 32]⟩) (L := [112, 108, 97, 110, 32]) rfl (A := p.name) rfl (B := ⟨#[32, 99, 117, 114, 114, 101, 110, 99, 121, 32]⟩) rfl (C := p.cur) rfl (D := ⟨#[59, 10, 104, 111, 114, 105, 122, 111, 110, 32]⟩) rfl (show X.data.toList = dayT p.a by rw [hX])) (A := ⟨#[32]⟩) rfl (show Y.data.toList = dayT p.b by rw [hY]) (X := ⟨#[59, 10]⟩) rfl])
  rw [← hT] at zH
  have d0 := X1.cell 0 _ rfl
  have d1 := X1.cell 1 _ rfl
  have d2 := X1.cell 2 _ rfl
  have d3 := X1.cell 3 _ rfl
  have d4 := X1.cell 4 _ rfl
  have d5 := X1.cell 5 _ rfl
  have d6 := X1.cell 6 _ rfl
  have d7 := X1.cell 7 _ rfl
  have HW := hid hw1
  have HK1 := hid hk1
  have SP := hid sp
  clear hX hY hw1 b1 hk1 X1 hp hK hT sp
  unfold planC at HW ⊢
  go_enter Tryz.func13, Tryz.ntmps13
  go_upto_region 1 with fail
  rw [← HW.out, ← HK1.out]
  clear HW HK1
  have x0 := cell_regrown d0
  have x1 := cell_regrown d1
  have x2 := cell_regrown d2
  have x3 := cell_regrown d3
  have x4 := cell_regrown d4
  have x5 := cell_regrown d5
  have x6 := cell_regrown d6
  have x7 := cell_regrown d7
  have qX := fun d os => Calls.regrown_of (cX (grow (redrawn w1 d) os))
  have qY := fun d os => Calls.regrown_of (cY (grow (redrawn w1 d) os))
  clear cX cY d0 d1 d2 d3 d4 d5 d6 d7
  refine wp_region_quiet_below (by kernel_rfl) (by kernel_rfl) ?_
  repeat (go_big_quiet_step (first | (go_at_call_of 31 (Value.agg #[Value.int IntKind.i64 p.a.y, Value.int IntKind.i64 p.a.m, Value.int IntKind.i64 p.a.d]); exact qX _ _) | (go_at_call 31; exact qY _ _)))
  refine wpQuiet_nil ?_
  intro w2 hw'
  obtain ⟨⟨dq, osq⟩, hw''⟩ := hw'
  have B2 : Hid (Below w1.heap.size w1 w2) := hid (by subst hw''; exact below_regrown w1 dq osq)
  clear hw'' qX qY x0 x1 x2 x3 x4 x5 x6 x7
  obtain ⟨V0, hVV⟩ : ∃ V, V = (⟨#[112, 108, 97, 110, 32]⟩ : ByteArray) ++ p.name ++ ⟨#[32, 99, 117, 114, 114, 101, 110, 99, 121, 32]⟩ ++ p.cur ++ ⟨#[59, 10, 104, 111, 114, 105, 122, 111, 110, 32]⟩ ++ X ++ ⟨#[32]⟩ ++ Y ++ ⟨#[59, 10]⟩ := ⟨_, rfl⟩
  rw [← hVV] at hV0 ⊢
  have zV : V0.size ≤ 300000 := by rw [hV0.out, ba_size]; exact zH
  clear hVV zX zY zN zH
  obtain ⟨nM, hnM⟩ : ∃ n, n = p.meters.length := ⟨_, rfl⟩
  obtain ⟨nF, hnF⟩ : ∃ n, n = p.fees.length := ⟨_, rfl⟩
  obtain ⟨nC, hnC⟩ : ∃ n, n = p.charges.length := ⟨_, rfl⟩
  have qM : nM ≤ 20000 := by rw [hnM]; exact SP.out.cnt.1
  have qF : nF ≤ 20000 := by rw [hnF]; exact SP.out.cnt.2.1
  have qC : nC ≤ 20000 := by rw [hnC]; exact SP.out.cnt.2.2
  rw [← hnM, ← hnF, ← hnC] at C
  have HnM := hid hnM
  have HnF := hid hnF
  have HnC := hid hnC
  clear hnM hnF hnC
  obtain ⟨e8, e9, e10⟩ := C.out _ B2.out
  clear e9 e10
  go_wp2
  clear e8
  go_loopw [3, 31] (fun v i wr => ∃ (i' : Nat) (V : ByteArray), v = .string V ∧ i = .int .i64 (i' : Int) ∧ i' ≤ nM ∧ V.size ≤ 300000 + i' * 5000000 ∧ Hid (V = ⟨(T ++ (p.meters.take i').flatMap meterT).toArray⟩) ∧ Hid (Below w1.heap.size w1 wr)) (fun _ i _ => nM - (intOf i).toNat)
  case atStart => exact ⟨0, V0, rfl, rfl, Nat.zero_le _, by omega, hid (by rw [List.take_zero, List.flatMap_nil, List.append_nil]; exact hV0.out), B2⟩
  case round =>
    obtain ⟨i', V, rfl, rfl, hi, hv, hV, hB⟩ := hrel
    by_cases hlt : i' < nM
    · obtain ⟨m, hti⟩ : ∃ m, p.meters[i']? = some m := ⟨_, List.getElem?_eq_getElem (by have := HnM.out; omega)⟩
      have g := SP.out.meters m (List.mem_of_getElem? hti)
      have ST := hid (rows_take (f := meterT) hti)
      obtain ⟨b, o, e, lb, a0, a1, a2, a3, a4, _⟩ := R6.meter_at (L0.out _ hB.out).1.meters hti
      obtain ⟨X, hX⟩ : ∃ S : ByteArray, S = ⟨(nmbT m.max).toArray⟩ := ⟨_, rfl⟩
      have zX : X.size ≤ 20 := by rw [hX, ba_size]; exact nmbT_len g.2.2
      have zn := g.1
      have cI := fun W k => tx.itoa m.max W k g.2.1 g.2.2
      rw [← hX] at cI
      have F := hid (put3 (put6 hV.out (A := ⟨#[109, 101, 116, 101, 114, 32]⟩) rfl (B := m.name) rfl (C := ⟨#[32, 117, 110, 105, 116, 32]⟩) rfl (D := m.unit) rfl (X := ⟨#[32, 109, 97, 120, 32]⟩) rfl) (show X.data.toList = nmbT m.max by rw [hX]) (X := ⟨#[59, 10]⟩) rfl)
      obtain ⟨wt, hwt⟩ : ∃ W, W = wr.alloc (.cells #[.string m.name, .string m.unit, .int .i64 m.max, .int .i64 m.line, .int .i64 m.col] 44) := ⟨_, rfl⟩
      have xt : Box wt wr.heap.size [.string m.name, .string m.unit, .int .i64 m.max, .int .i64 m.line, .int .i64 m.col] := by rw [hwt]; exact Box.new _ _ _
      have bt : Below wr.heap.size wr wt := by rw [hwt]; exact bel_alloc _ _
      have BT := hid (bel_on hB.out bt)
      have HWT := hid hwt
      have t0 := cell_regrown (xt.cell 0 _ rfl)
      have t1 := cell_regrown (xt.cell 1 _ rfl)
      have t2 := cell_regrown (xt.cell 2 _ rfl)
      have qI := fun d os => Calls.regrown_of (cI (grow (redrawn wt d) os) (L0.out _ (bel_on BT.out (below_regrown wt d os))).2.1)
      clear hti cI hX hwt bt xt g
      subst e
      go_upto_region 5 with fail
      rw [← HWT.out]
      clear HWT a0 a1 a2 a3 a4
      refine wp_region_quiet_below (by kernel_rfl) (by kernel_rfl) ?_
      repeat (go_big_quiet_step (first | (go_at_call 27; exact qI _ _)))
      refine wpQuiet_nil ?_
      intro w7 hw'
      obtain ⟨⟨dq, osq⟩, hw''⟩ := hw'
      have B7 : Hid (Below w1.heap.size w1 w7) := hid (by subst hw''; exact bel_on BT.out (below_regrown wt dq osq))
      clear hw'' qI t0 t1 t2
      go_wp2
      go_roundw
      case rel => exact ⟨i' + 1, _, rfl, by simp, by omega, by rw [ByteArray.size_append, ByteArray.size_append, ByteArray.size_append, ByteArray.size_append, ByteArray.size_append, ByteArray.size_append, ByteArray.size_append]; show _ + 6 + _ + 6 + _ + 5 + _ + 2 ≤ _; omega, hid (by rw [ST.out, meter_text, ← List.append_assoc T, ← List.append_assoc (T ++ _)]; exact F.out), B7⟩
      case measure => simp [intOf]; omega
    · obtain rfl : i' = nM := by omega
      obtain ⟨V1, hV1⟩ : ∃ X, X = V := ⟨_, rfl⟩
      obtain ⟨T', hT'⟩ : ∃ X, X = T ++ p.meters.flatMap meterT := ⟨_, rfl⟩
      have HV1 : Hid (V1 = ⟨T'.toArray⟩) := hid (by rw [hV1, hV.out, hT', HnM.out, List.take_length])
      have zV1 : V1.size ≤ 100000300000 := by rw [hV1]; omega
      replace HT : Hid (planT p = T' ++ p.fees.flatMap feeT ++ p.charges.flatMap chargeT) := hid (by rw [HT.out, hT'])
      rw [← hV1]
      have BBV1 := hB
      clear hlt hi hB hV hv hV1 hT' zV hV0 B2
      obtain ⟨e8, e9, e10⟩ := C.out _ BBV1.out
      clear e8 e10
      go_wp2
      clear e9
      go_loopw [3, 54] (fun v i wr => ∃ (i' : Nat) (V : ByteArray), v = .string V ∧ i = .int .i64 (i' : Int) ∧ i' ≤ nF ∧ V.size ≤ 100000300000 + i' * 5000000 ∧ Hid (V = ⟨(T' ++ (p.fees.take i').flatMap feeT).toArray⟩) ∧ Hid (Below w1.heap.size w1 wr)) (fun _ i _ => nF - (intOf i).toNat)
      case atStart => exact ⟨0, V1, rfl, rfl, Nat.zero_le _, by omega, hid (by rw [List.take_zero, List.flatMap_nil, List.append_nil]; exact HV1.out), BBV1⟩
      case round =>
        obtain ⟨i', V, rfl, rfl, hi, hv, hV, hB⟩ := hrel
        by_cases hlt : i' < nF
        · obtain ⟨f, hti⟩ : ∃ m, p.fees[i']? = some m := ⟨_, List.getElem?_eq_getElem (by have := HnF.out; omega)⟩
          have g := SP.out.fees f (List.mem_of_getElem? hti)
          have ST := hid (rows_take (f := feeT) hti)
          obtain ⟨b, o, e, lb, a0, a1, a2, a3, a4, a5, a6, a7, a8, a9, _⟩ := R6.fee_at (L0.out _ hB.out).1.fees hti
          obtain ⟨X, hX⟩ : ∃ S : ByteArray, S = ⟨(nmbT f.amount).toArray⟩ := ⟨_, rfl⟩
          obtain ⟨Y, hY⟩ : ∃ S : ByteArray, S = ⟨(winT f.win).toArray⟩ := ⟨_, rfl⟩
          have zX : X.size ≤ 20 := by rw [hX, ba_size]; exact nmbT_len g.1.2
          have zY : Y.size ≤ 30 := by rw [hY, ba_size]; exact winT_len _
          have cI := fun W k => tx.itoa f.amount W k g.1.1 g.1.2
          have cW := fun W => window_any f.win W
          rw [← hX] at cI
          rw [← hY] at cW
          unfold wC at cW
          have F := hid (put3 (put3 hV.out (A := ⟨#[102, 101, 101, 32]⟩) rfl (show X.data.toList = nmbT f.amount by rw [hX])) (show Y.data.toList = winT f.win by rw [hY]) (X := ⟨#[59, 10]⟩) rfl)
          obtain ⟨wt, hwt⟩ : ∃ W, W = wr.alloc (.cells #[.int .i64 f.amount, .bool f.win.has, .int .i64 f.win.a.y, .int .i64 f.win.a.m, .int .i64 f.win.a.d, .int .i64 f.win.b.y, .int .i64 f.win.b.m, .int .i64 f.win.b.d, .int .i64 f.line, .int .i64 f.col] 48) := ⟨_, rfl⟩
          have xt : Box wt wr.heap.size [.int .i64 f.amount, .bool f.win.has, .int .i64 f.win.a.y, .int .i64 f.win.a.m, .int .i64 f.win.a.d, .int .i64 f.win.b.y, .int .i64 f.win.b.m, .int .i64 f.win.b.d, .int .i64 f.line, .int .i64 f.col] := by rw [hwt]; exact Box.new _ _ _
          have bt : Below wr.heap.size wr wt := by rw [hwt]; exact bel_alloc _ _
          have BT := hid (bel_on hB.out bt)
          have HWT := hid hwt
          have t0 := cell_regrown (xt.cell 0 _ rfl)
          have t1 := cell_regrown (xt.cell 1 _ rfl)
          have t2 := cell_regrown (xt.cell 2 _ rfl)
          have t3 := cell_regrown (xt.cell 3 _ rfl)
          have t4 := cell_regrown (xt.cell 4 _ rfl)
          have t5 := cell_regrown (xt.cell 5 _ rfl)
          have t6 := cell_regrown (xt.cell 6 _ rfl)
          have t7 := cell_regrown (xt.cell 7 _ rfl)
          have qI := fun d os => Calls.regrown_of (cI (grow (redrawn wt d) os) (L0.out _ (bel_on BT.out (below_regrown wt d os))).2.1)
          have qW := fun d os => Calls.regrown_of (cW (grow (redrawn wt d) os))
          clear hti cI cW hX hY hwt bt xt g
          subst e
          go_upto_region 10 with fail
          rw [← HWT.out]
          clear HWT a0 a1 a2 a3 a4 a5 a6 a7 a8 a9
          refine wp_region_quiet_below (by kernel_rfl) (by kernel_rfl) ?_
          repeat (go_big_quiet_step (first | (go_at_call 27; exact qI _ _) | (go_at_call 32; exact qW _ _)))
          refine wpQuiet_nil ?_
          intro w7 hw'
          obtain ⟨⟨dq, osq⟩, hw''⟩ := hw'
          have B7 : Hid (Below w1.heap.size w1 w7) := hid (by subst hw''; exact bel_on BT.out (below_regrown wt dq osq))
          clear hw'' qI qW t0 t1 t2 t3 t4 t5 t6 t7
          go_wp2
          go_roundw
          case rel => exact ⟨i' + 1, _, rfl, by simp, by omega, by rw [ByteArray.size_append, ByteArray.size_append, ByteArray.size_append, ByteArray.size_append]; show _ + 4 + _ + _ + 2 ≤ _; omega, hid (by rw [ST.out, fee_text, ← List.append_assoc T', ← List.append_assoc (T' ++ _)]; exact F.out), B7⟩
          case measure => simp [intOf]; omega
        · obtain rfl : i' = nF := by omega
          obtain ⟨V2, hV2⟩ : ∃ X, X = V := ⟨_, rfl⟩
          obtain ⟨T'', hT''⟩ : ∃ X, X = T' ++ p.fees.flatMap feeT := ⟨_, rfl⟩
          have HV2 : Hid (V2 = ⟨T''.toArray⟩) := hid (by rw [hV2, hV.out, hT'', HnF.out, List.take_length])
          have zV2 : V2.size ≤ 200000300000 := by rw [hV2]; omega
          replace HT : Hid (planT p = T'' ++ p.charges.flatMap chargeT) := hid (by rw [HT.out, hT''])
          rw [← hV2]
          have BBV2 := hB
          clear hlt hi hB hV hv hV2 hT'' zV1 HV1 BBV1
          obtain ⟨e8, e9, e10⟩ := C.out _ BBV2.out
          clear e8 e9
          go_wp2
          clear e10
          go_loopw [3, 73] (fun v i wr => ∃ (i' : Nat) (V : ByteArray), v = .string V ∧ i = .int .i64 (i' : Int) ∧ i' ≤ nC ∧ V.size ≤ 200000300000 + i' * 5000000 ∧ Hid (V = ⟨(T'' ++ (p.charges.take i').flatMap chargeT).toArray⟩) ∧ Hid (Below w1.heap.size w1 wr)) (fun _ i _ => nC - (intOf i).toNat)
          case atStart => exact ⟨0, V2, rfl, rfl, Nat.zero_le _, by omega, hid (by rw [List.take_zero, List.flatMap_nil, List.append_nil]; exact HV2.out), BBV2⟩
          case round =>
            obtain ⟨i', V, rfl, rfl, hi, hv, hV, hB⟩ := hrel
            by_cases hlt : i' < nC
            · obtain ⟨c, hti⟩ : ∃ m, p.charges[i']? = some m := ⟨_, List.getElem?_eq_getElem (by have := HnC.out; omega)⟩
              have g := SP.out.charges c (List.mem_of_getElem? hti)
              have ST := hid (rows_take (f := chargeT) hti)
              obtain ⟨b, o, ta, tc, aa, ac, e, ax, lx0⟩ := R6.charge_at (L0.out _ hB.out).1.charges hti
              have r1 := hid (range_at ax)
              unfold chargeC at r1
              obtain ⟨D, hD⟩ : ∃ Q : ByteArray, Q = ⟨(chargeT c).toArray⟩ := ⟨_, rfl⟩
              have zD : D.size ≤ 5000000 := by rw [hD, ba_size]; exact chargeT_len g
              have F := hid (put2 hV.out (show D.data.toList = chargeT c by rw [hD]))
              obtain ⟨wt, hwt⟩ : ∃ W, W = wr.alloc (.cells #[.string c.meter, .bool c.win.has, .int .i64 c.win.a.y, .int .i64 c.win.a.m, .int .i64 c.win.a.d, .int .i64 c.win.b.y, .int .i64 c.win.b.m, .int .i64 c.win.b.d, .int .i64 c.allowance, .int .i64 c.block, .int .i64 c.kind, .slice ta c.tiers.length tc, .int .i64 c.mode, .slice aa c.adjusts.length ac, .int .i64 c.line, .int .i64 c.col] 52) := ⟨_, rfl⟩
              have xt : Box wt wr.heap.size [.string c.meter, .bool c.win.has, .int .i64 c.win.a.y, .int .i64 c.win.a.m, .int .i64 c.win.a.d, .int .i64 c.win.b.y, .int .i64 c.win.b.m, .int .i64 c.win.b.d, .int .i64 c.allowance, .int .i64 c.block, .int .i64 c.kind, .slice ta c.tiers.length tc, .int .i64 c.mode, .slice aa c.adjusts.length ac, .int .i64 c.line, .int .i64 c.col] := by rw [hwt]; exact Box.new _ _ _
              have bt : Below wr.heap.size wr wt := by rw [hwt]; exact bel_alloc _ _
              have BT := hid (bel_on hB.out bt)
              have HWT := hid hwt
              have RT : Hid (wt.rangeAt wr.heap.size 0 [.string c.meter, .bool c.win.has, .int .i64 c.win.a.y, .int .i64 c.win.a.m, .int .i64 c.win.a.d, .int .i64 c.win.b.y, .int .i64 c.win.b.m, .int .i64 c.win.b.d, .int .i64 c.allowance, .int .i64 c.block, .int .i64 c.kind, .slice ta c.tiers.length tc, .int .i64 c.mode, .slice aa c.adjusts.length ac, .int .i64 c.line, .int .i64 c.col]) := hid (range_of xt.cell)
              have NC : Hid (Calls Tryz.prog 33 #[.agg #[.string c.meter, .bool c.win.has, .int .i64 c.win.a.y, .int .i64 c.win.a.m, .int .i64 c.win.a.d, .int .i64 c.win.b.y, .int .i64 c.win.b.m, .int .i64 c.win.b.d, .int .i64 c.allowance, .int .i64 c.block, .int .i64 c.kind, .slice ta c.tiers.length tc, .int .i64 c.mode, .slice aa c.adjusts.length ac, .int .i64 c.line, .int .i64 c.col]] wt fun e w' => e = .returned (.string D) ∧ Below wt.heap.size wt w') := hid (by
                have := charge_any c ta tc aa ac wt (lies_on lx0 bt) g (L0.out _ BT.out).2.1
                rw [← hD] at this
                exact this)
              clear hti hD hwt bt xt g lx0
              subst e
              go_upto_region 15 with (first | (with_reducible refine wpList_load_mid (op := Oper.mk (some 76) (Op.load 52 (Operand.tmp 75)) _ _ _ _) ?_ 52 (.tmp 75) ?_ b (o + i' * 16) ?_ [.string c.meter, .bool c.win.has, .int .i64 c.win.a.y, .int .i64 c.win.a.m, .int .i64 c.win.a.d, .int .i64 c.win.b.y, .int .i64 c.win.b.m, .int .i64 c.win.b.d, .int .i64 c.allowance, .int .i64 c.block, .int .i64 c.kind, .slice ta c.tiers.length tc, .int .i64 c.mode, .slice aa c.adjusts.length ac, .int .i64 c.line, .int .i64 c.col] _ r1.out Tryz.underlying52 ?_ ?_ ?_; rfl; rfl; go_simp; rfl; kernel_rfl) | (with_reducible refine wpList_store_new (op := Oper.mk none (Op.store 52 (Operand.tmp 9) (Operand.tmp 76)) _ _ _ _) ?_ 52 (.tmp 9) (.tmp 76) ?_ wr _ #[.string c.meter, .bool c.win.has, .int .i64 c.win.a.y, .int .i64 c.win.a.m, .int .i64 c.win.a.d, .int .i64 c.win.b.y, .int .i64 c.win.b.m, .int .i64 c.win.b.d, .int .i64 c.allowance, .int .i64 c.block, .int .i64 c.kind, .slice ta c.tiers.length tc, .int .i64 c.mode, .slice aa c.adjusts.length ac, .int .i64 c.line, .int .i64 c.col] ?_ ?_ ?_ ?_ ?_ ?_; rfl; rfl; go_simp; go_simp; kernel_rfl; rfl; (simp [Value.oneCell'])) | fail)
              rw [← HWT.out]
              clear HWT r1 ax
              go_wp2_with (first
                | (with_reducible refine wpList_load_mid (op := Oper.mk (some 78) (Op.load 52 (Operand.tmp 9)) _ _ _ _) ?_ 52 (.tmp 9) ?_ wr.heap.size 0 ?_ [.string c.meter, .bool c.win.has, .int .i64 c.win.a.y, .int .i64 c.win.a.m, .int .i64 c.win.a.d, .int .i64 c.win.b.y, .int .i64 c.win.b.m, .int .i64 c.win.b.d, .int .i64 c.allowance, .int .i64 c.block, .int .i64 c.kind, .slice ta c.tiers.length tc, .int .i64 c.mode, .slice aa c.adjusts.length ac, .int .i64 c.line, .int .i64 c.col] _ RT.out Tryz.underlying52 ?_ ?_ ?_; rfl; rfl; go_simp; rfl; kernel_rfl)
                | (go_at_call 33; refine NC.out.mono ?_; rintro e w5 ⟨rfl, b5⟩; have B5 := hid (bel_on BT.out b5); clear b5))
              go_roundw
              case rel => exact ⟨i' + 1, V ++ D, rfl, by simp, by omega, by rw [ByteArray.size_append]; omega, hid (by rw [ST.out, ← List.append_assoc]; exact F.out), B5⟩
              case measure => simp [intOf]; omega
            · obtain rfl : i' = nC := by omega
              have fin : V = ⟨(planT p).toArray⟩ := by rw [hV.out, HT.out, HnC.out, List.take_length]
              have FI := hid fin
              have BF := hid (L0.out _ hB.out).2.2
              clear fin hV hv
              go_wp2
              go_ret
              exact ⟨ret_s FI.out, BF.out⟩
end Go.Proofs.YteelbdcgdkpioaaGreatDoor.R8
/- The laws of layer 8: ShowIs. -/
namespace Go.Proofs.YteelbdcgdkpioaaGreatDoor.L08
open Go.RowKit Go.Sort P Mm Md Sw

set_option maxHeartbeats 16000000 in
set_option maxRecDepth 100000 in
theorem is_walk (s : ByteArray) (m : Int) (hm : I64 m) (w : World) (k : Kz w) : Calls Tryz.prog 3 #[.string s, .int .i64 m] w fun e w' => e = .returned (.bool true) ∧ Below w.heap.size w w' := by
  have cA := alive_any w k
  have K := hid k
  clear k
  by_cases hs : (8192 : Int) < (s.size : Int)
  · clear K
    go_enter Tryz.func3, Tryz.ntmps3
    go_wp2_with (go_at_call 8; refine cA.mono ?_; rintro e w1 ⟨rfl, b1⟩)
    go_ret
    exact ⟨rfl, b1⟩
  obtain ⟨p, hp⟩ : ∃ p, p = (parsed s.data.toList).1 := ⟨_, rfl⟩
  obtain ⟨x, hx⟩ : ∃ x, x = (parsed s.data.toList).2.1 := ⟨_, rfl⟩
  obtain ⟨y, hy⟩ : ∃ x, x = (parsed s.data.toList).2.2.1 := ⟨_, rfl⟩
  obtain ⟨z, hz⟩ : ∃ x, x = (parsed s.data.toList).2.2.2 := ⟨_, rfl⟩
  have HL : Hid (x = 0 → Sh p) := hid (fun h0 => by rw [hp]; rw [hx] at h0; exact parsed_sh h0)
  have cP := fun W => R7.ref_lies s W
  rw [← hp, ← hx, ← hy, ← hz] at cP
  have CP := hid cP
  obtain ⟨M, hM⟩ : ∃ S : ByteArray, S = ⟨(modeT m).toArray⟩ := ⟨_, rfl⟩
  have N1 : Hid (∀ W, Kz W → Calls Tryz.prog 10 #[.int .i64 m] W fun e w' => e = .returned (.string M) ∧ Below W.heap.size W w') := hid fun W k => by
    rw [hM]
    refine (mode_any tx m hm W k).mono ?_
    rintro e w' ⟨rfl, rfl⟩
    exact ⟨rfl, Below.refl _ _⟩
  have N2 : Hid (∀ W, Calls Tryz.prog 11 #[.int .i64 m] W fun e w' => e = .returned (.string M) ∧ Below W.heap.size W w') := hid fun W => by
    rw [hM]
    exact R8.mode_any m W
  clear cP hp hx hy hz hM hm
  go_enter Tryz.func3, Tryz.ntmps3
  go_wp2_with fail
  refine cA.mono ?_
  rintro e w1 ⟨rfl, b1⟩
  have BW := hid b1
  clear cA b1
  go_wp2_with fail
  refine (CP.out w1).mono ?_
  rintro e w2 ⟨ma, mc, fa, fc, ca, cc, rfl, lA, b2⟩
  obtain ⟨wA, hwA⟩ : ∃ W, W = w2.alloc (.cells #[.string p.name, .string p.cur, .int .i64 p.a.y, .int .i64 p.a.m, .int .i64 p.a.d, .int .i64 p.b.y, .int .i64 p.b.m, .int .i64 p.b.d, .slice ma p.meters.length mc, .slice fa p.fees.length fc, .slice ca p.charges.length cc, .int .i64 p.line, .int .i64 p.col] 29) := ⟨_, rfl⟩
  obtain ⟨k1, hk1⟩ : ∃ k, k = w2.heap.size := ⟨_, rfl⟩
  have bA : Below w2.heap.size w2 wA := by rw [hwA]; exact bel_alloc _ _
  have XP : Box wA k1 [.string p.name, .string p.cur, .int .i64 p.a.y, .int .i64 p.a.m, .int .i64 p.a.d, .int .i64 p.b.y, .int .i64 p.b.m, .int .i64 p.b.d, .slice ma p.meters.length mc, .slice fa p.fees.length fc, .slice ca p.charges.length cc, .int .i64 p.line, .int .i64 p.col] := by rw [hwA, hk1]; exact Box.new _ _ _
  have LP := hid (lA.on bA)
  replace BW := hid (bel_on BW.out (bel_on b2 bA))
  have KA := hid (K.out.later BW.out)
  have HW := hid hwA
  have HK := hid hk1
  have HX := hid XP
  clear CP lA b2 bA hwA hk1 XP K
  unfold planC
  go_upto_region 6 with (first
    | (with_reducible refine wpList_store_new (op := Oper.mk none (Op.store 29 (Operand.tmp 5) (Operand.tmp 17)) _ _ _ _) ?_ 29 (.tmp 5) (.tmp 17) ?_ w2 #[.string ⟨#[]⟩, .string ⟨#[]⟩, .int .i64 0, .int .i64 0, .int .i64 0, .int .i64 0, .int .i64 0, .int .i64 0, .slice none 0 0, .slice none 0 0, .slice none 0 0, .int .i64 0, .int .i64 0] #[.string p.name, .string p.cur, .int .i64 p.a.y, .int .i64 p.a.m, .int .i64 p.a.d, .int .i64 p.b.y, .int .i64 p.b.m, .int .i64 p.b.d, .slice ma p.meters.length mc, .slice fa p.fees.length fc, .slice ca p.charges.length cc, .int .i64 p.line, .int .i64 p.col] ?_ ?_ ?_ ?_ ?_ ?_; rfl; rfl; go_simp; go_simp; kernel_rfl; rfl; (simp [Value.oneCell']))
    | fail)
  rw [← HW.out, ← HK.out]
  clear HW HK
  have q1 := fun d os => Calls.regrown_of (N1.out (grow (redrawn wA d) os) (KA.out.later (below_regrown wA d os)))
  have q2 := fun d os => Calls.regrown_of (N2.out (grow (redrawn wA d) os))
  by_cases hx0 : x = 0
  case neg =>
    clear HL HX LP KA
    have hx1 : (x == 0) = false := by simpa using hx0
    have hx2 : (x != 0) = true := by simpa using hx0
    refine wp_region_quiet_below (by kernel_rfl) (by kernel_rfl) ?_
    repeat (go_big_quiet_step (first | (go_at_call 10; exact q1 _ _) | (go_at_call 11; exact q2 _ _)))
    refine wpQuiet_nil ?_
    intro w7 hw'
    obtain ⟨⟨dq, osq⟩, hw''⟩ := hw'
    have BF : Below w.heap.size w w7 := by subst hw''; exact bel_on BW.out (below_regrown wA dq osq)
    clear hw'' q1 q2
    go_wp2
    go_ret
    exact ⟨rfl, BF⟩
  have SP := HL.out hx0
  subst hx0
  clear HL
  obtain ⟨S, hS⟩ : ∃ S : ByteArray, S = ⟨(planT p).toArray⟩ := ⟨_, rfl⟩
  have P1 : ∀ W, Below wA.heap.size wA W → Calls Tryz.prog 12 #[.agg #[.string p.name, .string p.cur, .int .i64 p.a.y, .int .i64 p.a.m, .int .i64 p.a.d, .int .i64 p.b.y, .int .i64 p.b.m, .int .i64 p.b.d, .slice ma p.meters.length mc, .slice fa p.fees.length fc, .slice ca p.charges.length cc, .int .i64 p.line, .int .i64 p.col]] W fun e w' => e = .returned (.string S) ∧ Below W.heap.size W w' := fun W b => by
    rw [hS]
    exact plan_any tx p ma mc fa fc ca cc W (LP.out.on b) SP (KA.out.later b)
  have P2 : ∀ W, Below wA.heap.size wA W → Calls Tryz.prog 13 #[.agg #[.string p.name, .string p.cur, .int .i64 p.a.y, .int .i64 p.a.m, .int .i64 p.a.d, .int .i64 p.b.y, .int .i64 p.b.m, .int .i64 p.b.d, .slice ma p.meters.length mc, .slice fa p.fees.length fc, .slice ca p.charges.length cc, .int .i64 p.line, .int .i64 p.col]] W fun e w' => e = .returned (.string S) ∧ Below W.heap.size W w' := fun W b => by
    rw [hS]
    exact R8.plan_any p ma mc fa fc ca cc W (LP.out.on b) SP (KA.out.later b)
  have q3 := fun d os => Calls.regrown_of (P1 (grow (redrawn wA d) os) (below_regrown wA d os))
  have q4 := fun d os => Calls.regrown_of (P2 (grow (redrawn wA d) os) (below_regrown wA d os))
  have r0 := cell_regrown (HX.out.cell 0 _ rfl)
  have r1 := cell_regrown (HX.out.cell 1 _ rfl)
  have r2 := cell_regrown (HX.out.cell 2 _ rfl)
  have r3 := cell_regrown (HX.out.cell 3 _ rfl)
  have r4 := cell_regrown (HX.out.cell 4 _ rfl)
  have r5 := cell_regrown (HX.out.cell 5 _ rfl)
  have r6 := cell_regrown (HX.out.cell 6 _ rfl)
  have r7 := cell_regrown (HX.out.cell 7 _ rfl)
  have r8 := cell_regrown (HX.out.cell 8 _ rfl)
  have r9 := cell_regrown (HX.out.cell 9 _ rfl)
  have r10 := cell_regrown (HX.out.cell 10 _ rfl)
  have r11 := cell_regrown (HX.out.cell 11 _ rfl)
  have r12 := cell_regrown (HX.out.cell 12 _ rfl)
  clear P1 P2 hS SP LP KA HX N1 N2
  refine wp_region_quiet_below (by kernel_rfl) (by kernel_rfl) ?_
  repeat (go_big_quiet_step (first | (go_at_call 10; exact q1 _ _) | (go_at_call 11; exact q2 _ _) | (go_at_call 12; exact q3 _ _) | (go_at_call 13; exact q4 _ _)))
  refine wpQuiet_nil ?_
  intro w7 hw'
  obtain ⟨⟨dq, osq⟩, hw''⟩ := hw'
  have BF : Below w.heap.size w w7 := by subst hw''; exact bel_on BW.out (below_regrown wA dq osq)
  clear hw'' q1 q2 q3 q4
  go_wp2
  go_ret
  exact ⟨rfl, BF⟩
theorem is_walk_wf (s : ByteArray) (m : Int) (hm : (Lit.int .i64 m).wf = true) (w : World) (k : Kz w) : Calls Tryz.prog 3 #[.string s, .int .i64 m] w fun e w' => e = .returned (.bool true) ∧ Below w.heap.size w w' := is_walk s m (i64_of_wf hm) w k
end Go.Proofs.YteelbdcgdkpioaaGreatDoor.L08

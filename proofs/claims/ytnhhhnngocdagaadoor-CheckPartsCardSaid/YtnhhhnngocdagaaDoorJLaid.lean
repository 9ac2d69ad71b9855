/- The document's answers for layer 8 (poundageref08): plans. -/
import Derived.Test.YtnhhhnngocdagaaDoorJRef8b
import Derived.Test.YtnhhhnngocdagaaDoorJSh9
import Derived.Test.YtnhhhnngocdagaaDoorJDecP
import Derived.Test.YtnhhhnngocdagaaDoorJShL
import Derived.Test.YtnhhhnngocdagaaDoorJSh3
import Derived.Test.YtnhhhnngocdagaaDoorJL04
import Derived.Lib.LaidTab
import Derived.MakeChecks
import Derived.Stop.LaidErr
namespace Go.Proofs.YtnhhhnngocdagaaDoor.R8
open Go.RowKit Go.Sort P Mm Md Sw
theorem lies_on {w w' : World} {c : Charge} {ta : Option Addr} {tc : Nat} {aa : Option Addr} {ac : Nat} (h : ChargeLies w (chargeC c ta tc aa ac) c ta tc aa ac) (b : Below w.heap.size w w') : ChargeLies w' (chargeC c ta tc aa ac) c ta tc aa ac := ⟨h.cells, h.tiers.on b, h.adjusts.on b, h.meter, h.win, h.nums⟩
theorem meter_text (m : Meter) : meterT m = ([109, 101, 116, 101, 114, 32] ++ m.name.data.toList ++ [32, 117, 110, 105, 116, 32] ++ m.unit.data.toList ++ [32, 109, 97, 120, 32]) ++ (nmbT m.max ++ [59, 10]) := by
  unfold meterT tellT ln
  rw [join6]
  simp [wMeter, wUnit, wMax]
theorem fee_text (f : Fee) : feeT f = ([102, 101, 101, 32] ++ nmbT f.amount) ++ (winT f.win ++ [59, 10]) := by
  unfold feeT tellT ln
  rw [join2]
  simp [wFee]
theorem top_text (p : Plan) : headT8 p = [112, 108, 97, 110, 32] ++ (p.name.data.toList ++ [32, 99, 117, 114, 114, 101, 110, 99, 121, 32] ++ p.cur.data.toList ++ [59, 10, 104, 111, 114, 105, 122, 111, 110, 32] ++ dayT p.a) ++ ([32] ++ dayT p.b ++ [59, 10]) := by
  unfold headT8 tellT ln
  rw [join4, join3]
  simp [wPlan, wCurrency, wHorizon]
set_option maxHeartbeats 16000000 in
set_option maxRecDepth 100000 in
theorem plan_any (p : Plan) (ma : Option Addr) (mc : Nat) (fa : Option Addr) (fc : Nat) (ca : Option Addr) (cc : Nat) (w : World) (hp : PlanLies w (planC p ma mc fa fc ca cc) p ma mc fa fc ca cc) (sp : Sh p) (hK : Kz w) :
    Calls Tryd.prog 8 #[.agg (planC p ma mc fa fc ca cc).toArray] w fun e w' => e = .returned (.string ⟨(planT p).toArray⟩) ∧ Below w.heap.size w w' := by
  have zH := headT8_len sp.name
  have zN := sp.name
  obtain ⟨X, hX⟩ : ∃ S : ByteArray, S = ⟨(dayT p.a).toArray⟩ := ⟨_, rfl⟩
  obtain ⟨Y, hY⟩ : ∃ S : ByteArray, S = ⟨(dayT p.b).toArray⟩ := ⟨_, rfl⟩
  have zX : X.size ≤ 10 := by rw [hX, ba_size]; exact dayT_len _
  have zY : Y.size ≤ 10 := by rw [hY, ba_size]; exact dayT_len _
  have cX := fun W => day3 p.a W
  have cY := fun W => day3 p.b W
  rw [← hX] at cX
  rw [← hY] at cY
  unfold dC at cX cY
  obtain ⟨w1, hw1⟩ : ∃ W, W = w.alloc (.cells (planC p ma mc fa fc ca cc).toArray 29) := ⟨_, rfl⟩
  have b1 : Below w.heap.size w w1 := by rw [hw1]; exact bel_alloc _ _
  obtain ⟨k1, hk1⟩ : ∃ k, k = w.heap.size := ⟨_, rfl⟩
  have X1 : Box w1 k1 (planC p ma mc fa fc ca cc) := by rw [hw1, hk1]; exact Box.new _ _ _
  have C : Hid (∀ W, Below w1.heap.size w1 W → W.cell? ⟨k1, 8, none⟩ = some (.slice ma p.meters.length mc) ∧ W.cell? ⟨k1, 9, none⟩ = some (.slice fa p.fees.length fc) ∧ W.cell? ⟨k1, 10, none⟩ = some (.slice ca p.charges.length cc)) :=
    hid fun W b => ⟨(X1.on b).cell 8 _ rfl, (X1.on b).cell 9 _ rfl, (X1.on b).cell 10 _ rfl⟩
  have L0 : Hid (∀ W, Below w1.heap.size w1 W → PlanLies W (planC p ma mc fa fc ca cc) p ma mc fa fc ca cc ∧ Kz W ∧ Below w.heap.size w W) :=
    hid fun W b => ⟨hp.on (bel_on b1 b), hK.later (bel_on b1 b), bel_on b1 b⟩
  obtain ⟨T, hT⟩ : ∃ L, L = headT8 p := ⟨_, rfl⟩
  have HT : Hid (planT p = T ++ p.meters.flatMap meterT ++ p.fees.flatMap feeT ++ p.charges.flatMap chargeT) := hid (by rw [hT]; rfl)
  have hV0 : Hid ((⟨#[112, 108, 97, 110, 32]⟩ : ByteArray) ++ p.name ++ ⟨#[32, 99, 117, 114, 114, 101, 110, 99, 121, 32]⟩ ++ p.cur ++ ⟨#[59, 10, 104, 111, 114, 105, 122, 111, 110, 32]⟩ ++ X ++ ⟨#[32]⟩ ++ Y ++ ⟨#[59, 10]⟩ = ⟨T.toArray⟩) := hid (by
    rw [hT, top_text, put4 (put6 (V := ⟨#[112, 108, 97, 110, 32]⟩) (L := [112, 108, 97, 110, 32]) rfl (A := p.name) rfl (B := ⟨#[32, 99, 117, 114, 114, 101, 110, 99, 121, 32]⟩) rfl (C := p.cur) rfl (D := ⟨#[59, 10, 104, 111, 114, 105, 122, 111, 110, 32]⟩) rfl (show X.data.toList = dayT p.a by rw [hX])) (A := ⟨#[32]⟩) rfl (show Y.data.toList = dayT p.b by rw [hY]) (X := ⟨#[59, 10]⟩) rfl])
  rw [← hT] at zH
  have d0 := X1.cell 0 _ rfl
  have d1 := X1.cell 1 _ rfl
  have d2 := X1.cell 2 _ rfl
  have d3 := X1.cell 3 _ rfl
  have d4 := X1.cell 4 _ rfl
  have d5 := X1.cell 5 _ rfl
  have d6 := X1.cell 6 _ rfl
  have d7 := X1.cell 7 _ rfl
  have HW := hid hw1
  have HK1 := hid hk1
  have SP := hid sp
  clear hX hY hw1 b1 hk1 X1 hp hK hT sp
  unfold planC at HW ⊢
  go_enter Tryd.func8, Tryd.ntmps8
  go_upto_region 1 with fail
  rw [← HW.out, ← HK1.out]
  clear HW HK1
  have x0 := cell_regrown d0
  have x1 := cell_regrown d1
  have x2 := cell_regrown d2
  have x3 := cell_regrown d3
  have x4 := cell_regrown d4
  have x5 := cell_regrown d5
  have x6 := cell_regrown d6
  have x7 := cell_regrown d7
  have qX := fun d os => Calls.regrown_of (cX (grow (redrawn w1 d) os))
  have qY := fun d os => Calls.regrown_of (cY (grow (redrawn w1 d) os))
  clear cX cY d0 d1 d2 d3 d4 d5 d6 d7
  refine wp_region_quiet_below (by kernel_rfl) (by kernel_rfl) ?_
  repeat (go_big_quiet_step (first | (go_at_call_of 15 (Value.agg #[Value.int IntKind.i64 p.a.y, Value.int IntKind.i64 p.a.m, Value.int IntKind.i64 p.a.d]); exact qX _ _) | (go_at_call 15; exact qY _ _)))
  refine wpQuiet_nil ?_
  intro w2 hw'
  obtain ⟨⟨dq, osq⟩, hw''⟩ := hw'
  have B2 : Hid (Below w1.heap.size w1 w2) := hid (by subst hw''; exact below_regrown w1 dq osq)
  clear hw'' qX qY x0 x1 x2 x3 x4 x5 x6 x7
  obtain ⟨V0, hVV⟩ : ∃ V, V = (⟨#[112, 108, 97, 110, 32]⟩ : ByteArray) ++ p.name ++ ⟨#[32, 99, 117, 114, 114, 101, 110, 99, 121, 32]⟩ ++ p.cur ++ ⟨#[59, 10, 104, 111, 114, 105, 122, 111, 110, 32]⟩ ++ X ++ ⟨#[32]⟩ ++ Y ++ ⟨#[59, 10]⟩ := ⟨_, rfl⟩
  rw [← hVV] at hV0 ⊢
  have zV : V0.size ≤ 300000 := by rw [hV0.out, ba_size]; exact zH
  clear hVV zX zY zN zH
  obtain ⟨nM, hnM⟩ : ∃ n, n = p.meters.length := ⟨_, rfl⟩
  obtain ⟨nF, hnF⟩ : ∃ n, n = p.fees.length := ⟨_, rfl⟩
  obtain ⟨nC, hnC⟩ : ∃ n, n = p.charges.length := ⟨_, rfl⟩
  have qM : nM ≤ 20000 := by rw [hnM]; exact SP.out.cnt.1
  have qF : nF ≤ 20000 := by rw [hnF]; exact SP.out.cnt.2.1
  have qC : nC ≤ 20000 := by rw [hnC]; exact SP.out.cnt.2.2
  rw [← hnM, ← hnF, ← hnC] at C
  have HnM := hid hnM
  have HnF := hid hnF
  have HnC := hid hnC
  clear hnM hnF hnC
  obtain ⟨e8, e9, e10⟩ := C.out _ B2.out
  clear e9 e10
  go_wp2
  clear e8
  go_loopw [3, 31] (fun v i wr => ∃ (i' : Nat) (V : ByteArray), v = .string V ∧ i = .int .i64 (i' : Int) ∧ i' ≤ nM ∧ V.size ≤ 300000 + i' * 5000000 ∧ Hid (V = ⟨(T ++ (p.meters.take i').flatMap meterT).toArray⟩) ∧ Hid (Below w1.heap.size w1 wr)) (fun _ i _ => nM - (intOf i).toNat)
  case atStart => exact ⟨0, V0, rfl, rfl, Nat.zero_le _, by omega, hid (by rw [List.take_zero, List.flatMap_nil, List.append_nil]; exact hV0.out), B2⟩
  case round =>
    obtain ⟨i', V, rfl, rfl, hi, hv, hV, hB⟩ := hrel
    by_cases hlt : i' < nM
    · obtain ⟨m, hti⟩ : ∃ m, p.meters[i']? = some m := ⟨_, List.getElem?_eq_getElem (by have := HnM.out; omega)⟩
      have g := SP.out.meters m (List.mem_of_getElem? hti)
      have ST := hid (rows_take (f := meterT) hti)
      obtain ⟨b, o, e, lb, a0, a1, a2, a3, a4, _⟩ := R6.meter_at (L0.out _ hB.out).1.meters hti
      obtain ⟨X, hX⟩ : ∃ S : ByteArray, S = ⟨(nmbT m.max).toArray⟩ := ⟨_, rfl⟩
      have zX : X.size ≤ 20 := by rw [hX, ba_size]; exact nmbT_len g.2.2
      have zn := g.1
      have cI := fun W k => tx.itoa m.max W k g.2.1 g.2.2
      rw [← hX] at cI
      have F := hid (put3 (put6 hV.out (A := ⟨#[109, 101, 116, 101, 114, 32]⟩) rfl (B := m.name) rfl (C := ⟨#[32, 117, 110, 105, 116, 32]⟩) rfl (D := m.unit) rfl (X := ⟨#[32, 109, 97, 120, 32]⟩) rfl) (show X.data.toList = nmbT m.max by rw [hX]) (X := ⟨#[59, 10]⟩) rfl)
      obtain ⟨wt, hwt⟩ : ∃ W, W = wr.alloc (.cells #[.string m.name, .string m.unit, .int .i64 m.max, .int .i64 m.line, .int .i64 m.col] 45) := ⟨_, rfl⟩
      have xt : Box wt wr.heap.size [.string m.name, .string m.unit, .int .i64 m.max, .int .i64 m.line, .int .i64 m.col] := by rw [hwt]; exact Box.new _ _ _
      have bt : Below wr.heap.size wr wt := by rw [hwt]; exact bel_alloc _ _
      have BT := hid (bel_on hB.out bt)
      have HWT := hid hwt
      have t0 := cell_regrown (xt.cell 0 _ rfl)
      have t1 := cell_regrown (xt.cell 1 _ rfl)
      have t2 := cell_regrown (xt.cell 2 _ rfl)
      have qI := fun d os => Calls.regrown_of (cI (grow (redrawn wt d) os) (L0.out _ (bel_on BT.out (below_regrown wt d os))).2.1)
      clear hti cI hX hwt bt xt g
      subst e
      go_upto_region 5 with fail
      rw [← HWT.out]
      clear HWT a0 a1 a2 a3 a4
      refine wp_region_quiet_below (by kernel_rfl) (by kernel_rfl) ?_
      repeat (go_big_quiet_step (first | (go_at_call 16; exact qI _ _)))
      refine wpQuiet_nil ?_
      intro w7 hw'
      obtain ⟨⟨dq, osq⟩, hw''⟩ := hw'
      have B7 : Hid (Below w1.heap.size w1 w7) := hid (by subst hw''; exact bel_on BT.out (below_regrown wt dq osq))
      clear hw'' qI t0 t1 t2
      go_wp2
      go_roundw
      case rel => exact ⟨i' + 1, _, rfl, by simp, by omega, by rw [ByteArray.size_append, ByteArray.size_append, ByteArray.size_append, ByteArray.size_append, ByteArray.size_append, ByteArray.size_append, ByteArray.size_append]; show _ + 6 + _ + 6 + _ + 5 + _ + 2 ≤ _; omega, hid (by rw [ST.out, meter_text, ← List.append_assoc T, ← List.append_assoc (T ++ _)]; exact F.out), B7⟩
      case measure => simp [intOf]; omega
    · obtain rfl : i' = nM := by omega
      obtain ⟨V1, hV1⟩ : ∃ X, X = V := ⟨_, rfl⟩
      obtain ⟨T', hT'⟩ : ∃ X, X = T ++ p.meters.flatMap meterT := ⟨_, rfl⟩
      have HV1 : Hid (V1 = ⟨T'.toArray⟩) := hid (by rw [hV1, hV.out, hT', HnM.out, List.take_length])
      have zV1 : V1.size ≤ 100000300000 := by rw [hV1]; omega
      replace HT : Hid (planT p = T' ++ p.fees.flatMap feeT ++ p.charges.flatMap chargeT) := hid (by rw [HT.out, hT'])
      rw [← hV1]
      have BBV1 := hB
      clear hlt hi hB hV hv hV1 hT' zV hV0 B2
      obtain ⟨e8, e9, e10⟩ := C.out _ BBV1.out
      clear e8 e10
      go_wp2
      clear e9
      go_loopw [3, 54] (fun v i wr => ∃ (i' : Nat) (V : ByteArray), v = .string V ∧ i = .int .i64 (i' : Int) ∧ i' ≤ nF ∧ V.size ≤ 100000300000 + i' * 5000000 ∧ Hid (V = ⟨(T' ++ (p.fees.take i').flatMap feeT).toArray⟩) ∧ Hid (Below w1.heap.size w1 wr)) (fun _ i _ => nF - (intOf i).toNat)
      case atStart => exact ⟨0, V1, rfl, rfl, Nat.zero_le _, by omega, hid (by rw [List.take_zero, List.flatMap_nil, List.append_nil]; exact HV1.out), BBV1⟩
      case round =>
        obtain ⟨i', V, rfl, rfl, hi, hv, hV, hB⟩ := hrel
        by_cases hlt : i' < nF
        · obtain ⟨f, hti⟩ : ∃ m, p.fees[i']? = some m := ⟨_, List.getElem?_eq_getElem (by have := HnF.out; omega)⟩
          have g := SP.out.fees f (List.mem_of_getElem? hti)
          have ST := hid (rows_take (f := feeT) hti)
          obtain ⟨b, o, e, lb, a0, a1, a2, a3, a4, a5, a6, a7, a8, a9, _⟩ := R6.fee_at (L0.out _ hB.out).1.fees hti
          obtain ⟨X, hX⟩ : ∃ S : ByteArray, S = ⟨(nmbT f.amount).toArray⟩ := ⟨_, rfl⟩
          obtain ⟨Y, hY⟩ : ∃ S : ByteArray, S = ⟨(winT f.win).toArray⟩ := ⟨_, rfl⟩
          have zX : X.size ≤ 20 := by rw [hX, ba_size]; exact nmbT_len g.1.2
          have zY : Y.size ≤ 30 := by rw [hY, ba_size]; exact winT_len _
          have cI := fun W k => tx.itoa f.amount W k g.1.1 g.1.2
          have cW := fun W => window_any f.win W
          rw [← hX] at cI
          rw [← hY] at cW
          unfold wC at cW
          have F := hid (put3 (put3 hV.out (A := ⟨#[102, 101, 101, 32]⟩) rfl (show X.data.toList = nmbT f.amount by rw [hX])) (show Y.data.toList = winT f.win by rw [hY]) (X := ⟨#[59, 10]⟩) rfl)
          obtain ⟨wt, hwt⟩ : ∃ W, W = wr.alloc (.cells #[.int .i64 f.amount, .bool f.win.has, .int .i64 f.win.a.y, .int .i64 f.win.a.m, .int .i64 f.win.a.d, .int .i64 f.win.b.y, .int .i64 f.win.b.m, .int .i64 f.win.b.d, .int .i64 f.line, .int .i64 f.col] 50) := ⟨_, rfl⟩
          have xt : Box wt wr.heap.size [.int .i64 f.amount, .bool f.win.has, .int .i64 f.win.a.y, .int .i64 f.win.a.m, .int .i64 f.win.a.d, .int .i64 f.win.b.y, .int .i64 f.win.b.m, .int .i64 f.win.b.d, .int .i64 f.line, .int .i64 f.col] := by rw [hwt]; exact Box.new _ _ _
          have bt : Below wr.heap.size wr wt := by rw [hwt]; exact bel_alloc _ _
          have BT := hid (bel_on hB.out bt)
          have HWT := hid hwt
          have t0 := cell_regrown (xt.cell 0 _ rfl)
          have t1 := cell_regrown (xt.cell 1 _ rfl)
          have t2 := cell_regrown (xt.cell 2 _ rfl)
          have t3 := cell_regrown (xt.cell 3 _ rfl)
          have t4 := cell_regrown (xt.cell 4 _ rfl)
          have t5 := cell_regrown (xt.cell 5 _ rfl)
          have t6 := cell_regrown (xt.cell 6 _ rfl)
          have t7 := cell_regrown (xt.cell 7 _ rfl)
          have qI := fun d os => Calls.regrown_of (cI (grow (redrawn wt d) os) (L0.out _ (bel_on BT.out (below_regrown wt d os))).2.1)
          have qW := fun d os => Calls.regrown_of (cW (grow (redrawn wt d) os))
          clear hti cI cW hX hY hwt bt xt g
          subst e
          go_upto_region 10 with fail
          rw [← HWT.out]
          clear HWT a0 a1 a2 a3 a4 a5 a6 a7 a8 a9
          refine wp_region_quiet_below (by kernel_rfl) (by kernel_rfl) ?_
          repeat (go_big_quiet_step (first | (go_at_call 16; exact qI _ _) | (go_at_call 17; exact qW _ _)))
          refine wpQuiet_nil ?_
          intro w7 hw'
          obtain ⟨⟨dq, osq⟩, hw''⟩ := hw'
          have B7 : Hid (Below w1.heap.size w1 w7) := hid (by subst hw''; exact bel_on BT.out (below_regrown wt dq osq))
          clear hw'' qI qW t0 t1 t2 t3 t4 t5 t6 t7
          go_wp2
          go_roundw
          case rel => exact ⟨i' + 1, _, rfl, by simp, by omega, by rw [ByteArray.size_append, ByteArray.size_append, ByteArray.size_append, ByteArray.size_append]; show _ + 4 + _ + _ + 2 ≤ _; omega, hid (by rw [ST.out, fee_text, ← List.append_assoc T', ← List.append_assoc (T' ++ _)]; exact F.out), B7⟩
          case measure => simp [intOf]; omega
        · obtain rfl : i' = nF := by omega
          obtain ⟨V2, hV2⟩ : ∃ X, X = V := ⟨_, rfl⟩
          obtain ⟨T'', hT''⟩ : ∃ X, X = T' ++ p.fees.flatMap feeT := ⟨_, rfl⟩
          have HV2 : Hid (V2 = ⟨T''.toArray⟩) := hid (by rw [hV2, hV.out, hT'', HnF.out, List.take_length])
          have zV2 : V2.size ≤ 200000300000 := by rw [hV2]; omega
          replace HT : Hid (planT p = T'' ++ p.charges.flatMap chargeT) := hid (by rw [HT.out, hT''])
          rw [← hV2]
          have BBV2 := hB
          clear hlt hi hB hV hv hV2 hT'' zV1 HV1 BBV1
          obtain ⟨e8, e9, e10⟩ := C.out _ BBV2.out
          clear e8 e9
          go_wp2
          clear e10
          go_loopw [3, 73] (fun v i wr => ∃ (i' : Nat) (V : ByteArray), v = .string V ∧ i = .int .i64 (i' : Int) ∧ i' ≤ nC ∧ V.size ≤ 200000300000 + i' * 5000000 ∧ Hid (V = ⟨(T'' ++ (p.charges.take i').flatMap chargeT).toArray⟩) ∧ Hid (Below w1.heap.size w1 wr)) (fun _ i _ => nC - (intOf i).toNat)
          case atStart => exact ⟨0, V2, rfl, rfl, Nat.zero_le _, by omega, hid (by rw [List.take_zero, List.flatMap_nil, List.append_nil]; exact HV2.out), BBV2⟩
          case round =>
            obtain ⟨i', V, rfl, rfl, hi, hv, hV, hB⟩ := hrel
            by_cases hlt : i' < nC
            · obtain ⟨c, hti⟩ : ∃ m, p.charges[i']? = some m := ⟨_, List.getElem?_eq_getElem (by have := HnC.out; omega)⟩
              have g := SP.out.charges c (List.mem_of_getElem? hti)
              have ST := hid (rows_take (f := chargeT) hti)
              obtain ⟨b, o, ta, tc, aa, ac, e, ax, lx0⟩ := R6.charge_at (L0.out _ hB.out).1.charges hti
              have r1 := hid (range_at ax)
              unfold chargeC at r1
              obtain ⟨D, hD⟩ : ∃ Q : ByteArray, Q = ⟨(chargeT c).toArray⟩ := ⟨_, rfl⟩
              have zD : D.size ≤ 5000000 := by rw [hD, ba_size]; exact chargeT_len g
              have F := hid (put2 hV.out (show D.data.toList = chargeT c by rw [hD]))
              obtain ⟨wt, hwt⟩ : ∃ W, W = wr.alloc (.cells #[.string c.meter, .bool c.win.has, .int .i64 c.win.a.y, .int .i64 c.win.a.m, .int .i64 c.win.a.d, .int .i64 c.win.b.y, .int .i64 c.win.b.m, .int .i64 c.win.b.d, .int .i64 c.allowance, .int .i64 c.block, .int .i64 c.kind, .slice ta c.tiers.length tc, .int .i64 c.mode, .slice aa c.adjusts.length ac, .int .i64 c.line, .int .i64 c.col] 54) := ⟨_, rfl⟩
              have xt : Box wt wr.heap.size [.string c.meter, .bool c.win.has, .int .i64 c.win.a.y, .int .i64 c.win.a.m, .int .i64 c.win.a.d, .int .i64 c.win.b.y, .int .i64 c.win.b.m, .int .i64 c.win.b.d, .int .i64 c.allowance, .int .i64 c.block, .int .i64 c.kind, .slice ta c.tiers.length tc, .int .i64 c.mode, .slice aa c.adjusts.length ac, .int .i64 c.line, .int .i64 c.col] := by rw [hwt]; exact Box.new _ _ _
              have bt : Below wr.heap.size wr wt := by rw [hwt]; exact bel_alloc _ _
              have BT := hid (bel_on hB.out bt)
              have HWT := hid hwt
              have RT : Hid (wt.rangeAt wr.heap.size 0 [.string c.meter, .bool c.win.has, .int .i64 c.win.a.y, .int .i64 c.win.a.m, .int .i64 c.win.a.d, .int .i64 c.win.b.y, .int .i64 c.win.b.m, .int .i64 c.win.b.d, .int .i64 c.allowance, .int .i64 c.block, .int .i64 c.kind, .slice ta c.tiers.length tc, .int .i64 c.mode, .slice aa c.adjusts.length ac, .int .i64 c.line, .int .i64 c.col]) := hid (range_of xt.cell)
              have NC : Hid (Calls Tryd.prog 18 #[.agg #[.string c.meter, .bool c.win.has, .int .i64 c.win.a.y, .int .i64 c.win.a.m, .int .i64 c.win.a.d, .int .i64 c.win.b.y, .int .i64 c.win.b.m, .int .i64 c.win.b.d, .int .i64 c.allowance, .int .i64 c.block, .int .i64 c.kind, .slice ta c.tiers.length tc, .int .i64 c.mode, .slice aa c.adjusts.length ac, .int .i64 c.line, .int .i64 c.col]] wt fun e w' => e = .returned (.string D) ∧ Below wt.heap.size wt w') := hid (by
                have := charge_any c ta tc aa ac wt (lies_on lx0 bt) g (L0.out _ BT.out).2.1
                rw [← hD] at this
                exact this)
              clear hti hD hwt bt xt g lx0
              subst e
              go_upto_region 15 with (first | (with_reducible refine wpList_load_mid (op := Oper.mk (some 76) (Op.load 54 (Operand.tmp 75)) _ _ _ _) ?_ 54 (.tmp 75) ?_ b (o + i' * 16) ?_ [.string c.meter, .bool c.win.has, .int .i64 c.win.a.y, .int .i64 c.win.a.m, .int .i64 c.win.a.d, .int .i64 c.win.b.y, .int .i64 c.win.b.m, .int .i64 c.win.b.d, .int .i64 c.allowance, .int .i64 c.block, .int .i64 c.kind, .slice ta c.tiers.length tc, .int .i64 c.mode, .slice aa c.adjusts.length ac, .int .i64 c.line, .int .i64 c.col] _ r1.out Tryd.underlying54 ?_ ?_ ?_; rfl; rfl; go_simp; rfl; kernel_rfl) | (with_reducible refine wpList_store_new (op := Oper.mk none (Op.store 54 (Operand.tmp 9) (Operand.tmp 76)) _ _ _ _) ?_ 54 (.tmp 9) (.tmp 76) ?_ wr _ #[.string c.meter, .bool c.win.has, .int .i64 c.win.a.y, .int .i64 c.win.a.m, .int .i64 c.win.a.d, .int .i64 c.win.b.y, .int .i64 c.win.b.m, .int .i64 c.win.b.d, .int .i64 c.allowance, .int .i64 c.block, .int .i64 c.kind, .slice ta c.tiers.length tc, .int .i64 c.mode, .slice aa c.adjusts.length ac, .int .i64 c.line, .int .i64 c.col] ?_ ?_ ?_ ?_ ?_ ?_; rfl; rfl; go_simp; go_simp; kernel_rfl; rfl; (simp [Value.oneCell'])) | fail)
              rw [← HWT.out]
              clear HWT r1 ax
              go_wp2_with (first
                | (with_reducible refine wpList_load_mid (op := Oper.mk (some 78) (Op.load 54 (Operand.tmp 9)) _ _ _ _) ?_ 54 (.tmp 9) ?_ wr.heap.size 0 ?_ [.string c.meter, .bool c.win.has, .int .i64 c.win.a.y, .int .i64 c.win.a.m, .int .i64 c.win.a.d, .int .i64 c.win.b.y, .int .i64 c.win.b.m, .int .i64 c.win.b.d, .int .i64 c.allowance, .int .i64 c.block, .int .i64 c.kind, .slice ta c.tiers.length tc, .int .i64 c.mode, .slice aa c.adjusts.length ac, .int .i64 c.line, .int .i64 c.col] _ RT.out Tryd.underlying54 ?_ ?_ ?_; rfl; rfl; go_simp; rfl; kernel_rfl)
                | (go_at_call 18; refine NC.out.mono ?_; rintro e w5 ⟨rfl, b5⟩; have B5 := hid (bel_on BT.out b5); clear b5))
              go_roundw
              case rel => exact ⟨i' + 1, V ++ D, rfl, by simp, by omega, by rw [ByteArray.size_append]; omega, hid (by rw [ST.out, ← List.append_assoc]; exact F.out), B5⟩
              case measure => simp [intOf]; omega
            · obtain rfl : i' = nC := by omega
              have fin : V = ⟨(planT p).toArray⟩ := by rw [hV.out, HT.out, HnC.out, List.take_length]
              have FI := hid fin
              have BF := hid (L0.out _ hB.out).2.2
              clear fin hV hv
              go_wp2
              go_ret
              exact ⟨ret_s FI.out, BF.out⟩
end Go.Proofs.YtnhhhnngocdagaaDoor.R8
/- The laws of layer 9: CheckPlain. -/
namespace Go.Proofs.YtnhhhnngocdagaaDoor.L09
open Go.RowKit Go.Sort P Mm Md R6 R9 Cc
theorem fld0 (a b c : Int) (W : World) : (Instr.field 34 (.agg #[.int .i64 a, .int .i64 b, .int .i64 c]) 0).run Tryd.prog W = .ok (.int .i64 a) W := by kernel_rfl
theorem sh_of {l : List UInt8} (e : (parsed l).2.1 = 0) : Sh (parsed l).1 := parsed_sh e
theorem okT_t {s : ByteArray} (h : okT s = true) : (parsed s.data.toList).2.1 = 0 ∧ s.size ≤ 8192 := by
  unfold okT at h
  rw [Bool.and_eq_true, decide_eq_true_eq, decide_eq_true_eq] at h
  exact h
theorem ref8 (p : Plan) (ma : Option Addr) (mc : Nat) (fa : Option Addr) (fc : Nat) (ca : Option Addr) (cc : Nat) (w : World) (hp : PlanLies w (planC p ma mc fa fc ca cc) p ma mc fa fc ca cc) (sp : Sh p) (hK : Sw.Kz w) :
    Calls Tryd.prog 8 #[.agg #[.string p.name, .string p.cur, .int .i64 p.a.y, .int .i64 p.a.m, .int .i64 p.a.d, .int .i64 p.b.y, .int .i64 p.b.m, .int .i64 p.b.d, .slice ma p.meters.length mc, .slice fa p.fees.length fc, .slice ca p.charges.length cc, .int .i64 p.line, .int .i64 p.col]] w fun e w' => e = .returned (.string ⟨(planT p).toArray⟩) ∧ Below w.heap.size w w' := R8.plan_any p ma mc fa fc ca cc w hp sp hK
set_option maxHeartbeats 16000000 in
set_option maxRecDepth 100000 in
theorem plain_walk (s : ByteArray) (w : World) (kz : Sw.Kz w) : Calls Tryd.prog 4 #[.string s] w fun e w' => e = .returned (.bool true) ∧ Below w.heap.size w w' := by
  have cA := alive_any w
  have KZ := hid kz
  have c1 := hid (fun W => of_any s W)
  obtain ⟨p, hp⟩ : ∃ p, p = (parsed s.data.toList).1 := ⟨_, rfl⟩
  obtain ⟨K, hK⟩ : ∃ K, K = okT s := ⟨_, rfl⟩
  obtain ⟨T, hT⟩ : ∃ T : ByteArray, T = ⟨(planT p).toArray⟩ := ⟨_, rfl⟩
  have hTl : T.data.toList = planT p := by rw [hT]
  obtain ⟨q, hq⟩ : ∃ q, q = (parsed T.data.toList).1 := ⟨_, rfl⟩
  obtain ⟨L, hL⟩ : ∃ L, L = okT T := ⟨_, rfl⟩
  have PL : Hid (K = true → Pl9 p ∧ Sh p ∧ (L = false → 8192 < T.size) ∧ (L = true → Pl9 q ∧ (wrongOf q).1 = (wrongOf p).1)) := hid (fun h => by
    rw [hK] at h
    have h1 := (okT_t h).1
    have gp : Gd p := by rw [hp]; exact parsed_gd h1
    have hs : T.size = T.data.toList.length := by simp
    refine ⟨by rw [hp]; exact pl9_of h1, by rw [hp]; exact parsed_sh h1, fun hl => ?_, fun hl => ?_⟩
    · rcases Nat.lt_or_ge 8192 T.size with hh | hh
      · exact hh
      · exfalso
        have := (plain_wrong gp hTl (by omega)).1
        rw [hL] at hl
        unfold okT at hl
        rw [this, decide_eq_true hh] at hl
        cases hl
    · rw [hL] at hl
      have h2 := okT_t hl
      refine ⟨by rw [hq]; exact pl9_of h2.1, ?_⟩
      have := (plain_wrong gp hTl (by omega)).2
      rw [hq]
      exact this)
  rw [← hp, ← hK] at c1
  unfold planC at c1
  have c3 := hid (fun W => of_any T W)
  rw [← hq, ← hL] at c3
  unfold planC at c3
  have HT := hid hT
  clear hp hK hT hTl hq hL kz
  go_enter Tryd.func4, Tryd.ntmps4
  go_wp2_with fail
  refine cA.mono ?_
  rintro e w0 ⟨rfl, b0⟩
  have B0 := hid b0
  clear cA b0
  go_wp2_with fail
  refine (c1.out w0).mono ?_
  rintro e w1 ⟨ma, mc, fa, fc, ca, cc, rfl, lp, b1⟩
  obtain ⟨wA, hwA⟩ : ∃ W, W = w1.alloc (.cells [.string p.name, .string p.cur, .int .i64 p.a.y, .int .i64 p.a.m, .int .i64 p.a.d, .int .i64 p.b.y, .int .i64 p.b.m, .int .i64 p.b.d, .slice ma p.meters.length mc, .slice fa p.fees.length fc, .slice ca p.charges.length cc, .int .i64 p.line, .int .i64 p.col].toArray 29) := ⟨_, rfl⟩
  have bA : Below w1.heap.size w1 wA := by rw [hwA]; exact bel_alloc _ _
  obtain ⟨kA, hkA⟩ : ∃ k, k = w1.heap.size := ⟨_, rfl⟩
  have XA : Box wA kA [.string p.name, .string p.cur, .int .i64 p.a.y, .int .i64 p.a.m, .int .i64 p.a.d, .int .i64 p.b.y, .int .i64 p.b.m, .int .i64 p.b.d, .slice ma p.meters.length mc, .slice fa p.fees.length fc, .slice ca p.charges.length cc, .int .i64 p.line, .int .i64 p.col] := by rw [hwA, hkA]; exact Box.new _ _ _
  have X := hid (fun (W : World) (b : Below wA.heap.size wA W) => (⟨XA.on b, lp.on (bel_on bA b), bel_on (bel_on B0.out (bel_on b1 bA)) b⟩ : Box W kA _ ∧ PlanLies W _ p ma mc fa fc ca cc ∧ Below w.heap.size w W))
  have HWA := hid hwA
  have HKA := hid hkA
  clear b1 bA lp hwA hkA XA c1 B0
  go_upto_region 4 with (first | (with_reducible refine wpList_store_new (op := Oper.mk none (Op.store 29 (Operand.tmp 3) (Operand.tmp 13)) _ _ _ _) ?_ 29 (.tmp 3) (.tmp 13) ?_ w1 #[.string ⟨#[]⟩, .string ⟨#[]⟩, .int .i64 0, .int .i64 0, .int .i64 0, .int .i64 0, .int .i64 0, .int .i64 0, .slice none 0 0, .slice none 0 0, .slice none 0 0, .int .i64 0, .int .i64 0] #[.string p.name, .string p.cur, .int .i64 p.a.y, .int .i64 p.a.m, .int .i64 p.a.d, .int .i64 p.b.y, .int .i64 p.b.m, .int .i64 p.b.d, .slice ma p.meters.length mc, .slice fa p.fees.length fc, .slice ca p.charges.length cc, .int .i64 p.line, .int .i64 p.col] ?_ ?_ ?_ ?_ ?_ ?_; rfl; rfl; go_simp; go_simp; kernel_rfl; rfl; (simp [Value.oneCell'])) | fail)
  rw [← HWA.out, ← HKA.out]
  clear HWA HKA
  by_cases hK : K = false
  · have BF := hid (X.out wA (Below.refl _ _)).2.2
    subst hK
    go_wp2
    go_ret
    exact ⟨rfl, BF.out⟩
  obtain rfl : K = true := by simpa using hK
  obtain ⟨PP, SP, h1, h2⟩ := PL.out rfl
  have H1 := hid h1
  have H2 := hid h2
  have cT := hid (ref8 p ma mc fa fc ca cc wA (X.out wA (Below.refl _ _)).2.1 SP (KZ.out.later (X.out wA (Below.refl _ _)).2.2))
  rw [← HT.out] at cT
  have HPP := hid PP
  clear PL h1 h2 PP SP hK HT
  have RP := hid (range_of (X.out wA (Below.refl _ _)).1.cell)
  go_wp2_with (first | (with_reducible refine wpList_load_mid (op := Oper.mk (some 17) (Op.load 29 (Operand.tmp 3)) _ _ _ _) ?_ 29 (.tmp 3) ?_ kA 0 ?_ [.string p.name, .string p.cur, .int .i64 p.a.y, .int .i64 p.a.m, .int .i64 p.a.d, .int .i64 p.b.y, .int .i64 p.b.m, .int .i64 p.b.d, .slice ma p.meters.length mc, .slice fa p.fees.length fc, .slice ca p.charges.length cc, .int .i64 p.line, .int .i64 p.col] _ RP.out Tryd.underlying29 ?_ ?_ ?_; rfl; rfl; go_simp; rfl; kernel_rfl) | fail)
  refine cT.out.mono ?_
  rintro e w2 ⟨rfl, b2⟩
  have B2 := hid b2
  clear b2 cT RP
  go_wp2_with fail
  refine (c3.out w2).mono ?_
  rintro e w3 ⟨mq, mcq, fq, fcq, cq, ccq, rfl, lq, b3⟩
  obtain ⟨wB, hwB⟩ : ∃ W, W = w3.alloc (.cells [.string q.name, .string q.cur, .int .i64 q.a.y, .int .i64 q.a.m, .int .i64 q.a.d, .int .i64 q.b.y, .int .i64 q.b.m, .int .i64 q.b.d, .slice mq q.meters.length mcq, .slice fq q.fees.length fcq, .slice cq q.charges.length ccq, .int .i64 q.line, .int .i64 q.col].toArray 29) := ⟨_, rfl⟩
  have bB : Below w3.heap.size w3 wB := by rw [hwB]; exact bel_alloc _ _
  obtain ⟨kB, hkB⟩ : ∃ k, k = w3.heap.size := ⟨_, rfl⟩
  have XB : Box wB kB [.string q.name, .string q.cur, .int .i64 q.a.y, .int .i64 q.a.m, .int .i64 q.a.d, .int .i64 q.b.y, .int .i64 q.b.m, .int .i64 q.b.d, .slice mq q.meters.length mcq, .slice fq q.fees.length fcq, .slice cq q.charges.length ccq, .int .i64 q.line, .int .i64 q.col] := by rw [hwB, hkB]; exact Box.new _ _ _
  have BB := hid (bel_on B2.out (bel_on b3 bB))
  have HXB := hid XB
  have HLQ := hid (lq.on bB)
  have HWB := hid hwB
  have HKB := hid hkB
  clear b3 bB lq hwB hkB XB c3 B2
  go_upto_region 8 with (first | (with_reducible refine wpList_store_new (op := Oper.mk none (Op.store 29 (Operand.tmp 6) (Operand.tmp 22)) _ _ _ _) ?_ 29 (.tmp 6) (.tmp 22) ?_ w3 #[.string ⟨#[]⟩, .string ⟨#[]⟩, .int .i64 0, .int .i64 0, .int .i64 0, .int .i64 0, .int .i64 0, .int .i64 0, .slice none 0 0, .slice none 0 0, .slice none 0 0, .int .i64 0, .int .i64 0] #[.string q.name, .string q.cur, .int .i64 q.a.y, .int .i64 q.a.m, .int .i64 q.a.d, .int .i64 q.b.y, .int .i64 q.b.m, .int .i64 q.b.d, .slice mq q.meters.length mcq, .slice fq q.fees.length fcq, .slice cq q.charges.length ccq, .int .i64 q.line, .int .i64 q.col] ?_ ?_ ?_ ?_ ?_ ?_; rfl; rfl; go_simp; go_simp; kernel_rfl; rfl; (simp [Value.oneCell'])) | fail)
  rw [← HWB.out, ← HKB.out]
  clear HWB HKB
  by_cases hL : L = false
  · have BF := hid (X.out wB BB.out).2.2
    have hz := H1.out hL
    have hz' : (8192 : Int) < (T.size : Int) := by omega
    subst hL
    clear H1 H2 hz
    go_wp2
    go_ret
    exact ⟨rfl, BF.out⟩
  obtain rfl : L = true := by simpa using hL
  obtain ⟨PQ, WE⟩ := H2.out rfl
  obtain ⟨a, ha⟩ : ∃ a, a = (wrongOf p).1 := ⟨_, rfl⟩
  have cP := hid (fun (W : World) (bw : Below wB.heap.size wB W) => Cc.plan_any p ma mc fa fc ca cc W (X.out W (bel_on BB.out bw)).2.1 HPP.out)
  have cQ := hid (fun (W : World) (bw : Below wB.heap.size wB W) => Cc.plan_any q mq mcq fq fcq cq ccq W (HLQ.out.on bw) PQ)
  rw [← ha] at cP
  rw [WE, ← ha] at cQ
  obtain ⟨y1, hy1⟩ : ∃ a, a = (wrongOf p).2.1 := ⟨_, rfl⟩
  obtain ⟨z1, hz1⟩ : ∃ a, a = (wrongOf p).2.2 := ⟨_, rfl⟩
  obtain ⟨y2, hy2⟩ : ∃ a, a = (wrongOf q).2.1 := ⟨_, rfl⟩
  obtain ⟨z2, hz2⟩ : ∃ a, a = (wrongOf q).2.2 := ⟨_, rfl⟩
  rw [← hy1, ← hz1] at cP
  rw [← hy2, ← hz2] at cQ
  have BF0 := hid (X.out wB BB.out).2.2
  have f0 := cell_regrown ((X.out wB BB.out).1.cell 0 _ rfl); have f1 := cell_regrown ((X.out wB BB.out).1.cell 1 _ rfl); have f2 := cell_regrown ((X.out wB BB.out).1.cell 2 _ rfl); have f3 := cell_regrown ((X.out wB BB.out).1.cell 3 _ rfl); have f4 := cell_regrown ((X.out wB BB.out).1.cell 4 _ rfl); have f5 := cell_regrown ((X.out wB BB.out).1.cell 5 _ rfl); have f6 := cell_regrown ((X.out wB BB.out).1.cell 6 _ rfl); have f7 := cell_regrown ((X.out wB BB.out).1.cell 7 _ rfl); have f8 := cell_regrown ((X.out wB BB.out).1.cell 8 _ rfl); have f9 := cell_regrown ((X.out wB BB.out).1.cell 9 _ rfl); have f10 := cell_regrown ((X.out wB BB.out).1.cell 10 _ rfl); have f11 := cell_regrown ((X.out wB BB.out).1.cell 11 _ rfl); have f12 := cell_regrown ((X.out wB BB.out).1.cell 12 _ rfl)
  have g0 := cell_regrown (HXB.out.cell 0 _ rfl); have g1 := cell_regrown (HXB.out.cell 1 _ rfl); have g2 := cell_regrown (HXB.out.cell 2 _ rfl); have g3 := cell_regrown (HXB.out.cell 3 _ rfl); have g4 := cell_regrown (HXB.out.cell 4 _ rfl); have g5 := cell_regrown (HXB.out.cell 5 _ rfl); have g6 := cell_regrown (HXB.out.cell 6 _ rfl); have g7 := cell_regrown (HXB.out.cell 7 _ rfl); have g8 := cell_regrown (HXB.out.cell 8 _ rfl); have g9 := cell_regrown (HXB.out.cell 9 _ rfl); have g10 := cell_regrown (HXB.out.cell 10 _ rfl); have g11 := cell_regrown (HXB.out.cell 11 _ rfl); have g12 := cell_regrown (HXB.out.cell 12 _ rfl)
  have qP := fun d os => Calls.regrown_of (cP.out (grow (redrawn wB d) os) (below_regrown wB d os))
  have qQ := fun d os => Calls.regrown_of (cQ.out (grow (redrawn wB d) os) (below_regrown wB d os))
  have F1 := fun W => fld0 a y1 z1 W
  have F2 := fun W => fld0 a y2 z2 W
  clear ha hy1 hz1 hy2 hz2 H1 H2 PQ WE hL cP cQ HPP X HXB HLQ BB
  go_upto_region 10 with fail
  refine wp_region_quiet_below (by kernel_rfl) (by kernel_rfl) ?_
  repeat (go_big_quiet_step (first | (go_at_call_of 7 (Value.agg #[.string p.name, .string p.cur, .int .i64 p.a.y, .int .i64 p.a.m, .int .i64 p.a.d, .int .i64 p.b.y, .int .i64 p.b.m, .int .i64 p.b.d, .slice ma p.meters.length mc, .slice fa p.fees.length fc, .slice ca p.charges.length cc, .int .i64 p.line, .int .i64 p.col]); exact qP _ _) | (go_at_call 7; exact qQ _ _)))
  refine wpQuiet_nil ?_
  intro wv hw'
  obtain ⟨⟨dq, osq⟩, hw''⟩ := hw'
  have BF : Hid (Below w.heap.size w wv) := hid (by subst hw''; exact bel_on BF0.out (below_regrown wB dq osq))
  clear hw'' qP qQ f0 f1 f2 f3 f4 f5 f6 f7 f8 f9 f10 f11 f12 g0 g1 g2 g3 g4 g5 g6 g7 g8 g9 g10 g11 g12
  go_wp2
  go_ret
  exact ⟨rfl, BF.out⟩
end Go.Proofs.YtnhhhnngocdagaaDoor.L09
/- What the listed tables give the walks: the powers of ten. -/
namespace Go.Proofs.YtnhhhnngocdagaaDoor.Ld
open Go.RowKit
theorem own : ownKnob Tryd.prog.godebug = none := by kernel_rfl
theorem of_head {W : World} {rest : List (String × DataW Unit)} (h : laidMet Tryd.prog (("internal/strconv.uint64pow10", Lib.tabData .u64 Lib.pow10Tab) :: rest) W) : Dt.Tab W :=
  Lib.tabIs_of_head (g := 0) (t := 132) (e := 111) (n := 20) (by kernel_rfl) (by kernel_rfl) (by kernel_rfl) (by kernel_rfl) (by kernel_rfl) (by kernel_rfl) h
theorem tab_of {W : World} {a b c : String × DataW Unit} (hc : c = ("internal/strconv.uint64pow10", Lib.tabData .u64 Lib.pow10Tab)) (hp : ([a, b, c].all fun x => x.2.handleName?.isNone) = true)
    (h : laidMetH Tryd.prog [a, b, c] W) : Dt.Tab W := by
  rw [MakeChecks.laidMetH_plain _ _ _ hp] at h
  subst hc
  exact of_head h.tail.tail
end Go.Proofs.YtnhhhnngocdagaaDoor.Ld

/- The laws of layer 8: ShowUnlike. -/
import Derived.Test.YteelbdcgdkpioaaGreatDoorJLaid4
import Derived.Deep.RegionHeldLaw
namespace Go.Proofs.YteelbdcgdkpioaaGreatDoor.L08
open Go.RowKit Go.Sort P Mm Md Sw L07 R6

set_option maxHeartbeats 16000000 in
set_option maxRecDepth 100000 in
theorem unlike_walk (s t : ByteArray) (w : World) (k : K8 w) : Calls Tryz.prog 5 #[.string s, .string t] w fun e w' => e = .returned (.bool true) ∧ Below w.heap.size w w' := by
  have cA := alive_any w k.1
  have K := hid k
  clear k
  rcases (show (8192 : Int) < (s.size : Int) ∨ (¬ (8192 : Int) < (s.size : Int) ∧ (8192 : Int) < (t.size : Int)) ∨ (¬ (8192 : Int) < (s.size : Int) ∧ ¬ (8192 : Int) < (t.size : Int)) by omega) with hs | ⟨hs, ht⟩ | ⟨hs, ht⟩
  · clear K
    go_enter Tryz.func5, Tryz.ntmps5
    go_wp2_with (go_at_call 8; refine cA.mono ?_; rintro e w1 ⟨rfl, b1⟩)
    go_ret
    exact ⟨rfl, b1⟩
  · clear K
    go_enter Tryz.func5, Tryz.ntmps5
    go_wp2_with (go_at_call 8; refine cA.mono ?_; rintro e w1 ⟨rfl, b1⟩)
    go_ret
    exact ⟨rfl, b1⟩
  obtain ⟨p, hp⟩ : ∃ p, p = (parsed s.data.toList).1 := ⟨_, rfl⟩
  obtain ⟨x, hx⟩ : ∃ x, x = (parsed s.data.toList).2.1 := ⟨_, rfl⟩
  obtain ⟨y, hy⟩ : ∃ x, x = (parsed s.data.toList).2.2.1 := ⟨_, rfl⟩
  obtain ⟨z, hz⟩ : ∃ x, x = (parsed s.data.toList).2.2.2 := ⟨_, rfl⟩
  have XZ : Hid (x = 0 → y = 0 ∧ z = 0) := hid (by rw [hx, hy, hz]; exact parsed_nought)
  have HS : Hid (x = 0 → Sh p) := hid (by rw [hx, hp]; exact parsed_sh)
  obtain ⟨q, hq⟩ : ∃ p, p = (parsed t.data.toList).1 := ⟨_, rfl⟩
  obtain ⟨x', hx'⟩ : ∃ x, x = (parsed t.data.toList).2.1 := ⟨_, rfl⟩
  obtain ⟨y', hy'⟩ : ∃ x, x = (parsed t.data.toList).2.2.1 := ⟨_, rfl⟩
  obtain ⟨z', hz'⟩ : ∃ x, x = (parsed t.data.toList).2.2.2 := ⟨_, rfl⟩
  have XZ' : Hid (x' = 0 → y' = 0 ∧ z' = 0) := hid (by rw [hx', hy', hz']; exact parsed_nought)
  have HS' : Hid (x' = 0 → Sh q) := hid (by rw [hx', hq]; exact parsed_sh)
  obtain ⟨A, hA⟩ : ∃ S : ByteArray, S = ⟨(planT p).toArray⟩ := ⟨_, rfl⟩
  obtain ⟨B, hB⟩ : ∃ S : ByteArray, S = ⟨(planT q).toArray⟩ := ⟨_, rfl⟩
  obtain ⟨R, hR⟩ : ∃ R : Bool, R = decide (row p = row q) := ⟨_, rfl⟩
  have HE : Hid (x = 0 → x' = 0 → (A.toList == B.toList) = R) := hid (fun h0 h1 => by
    rw [hx] at h0
    rw [hx'] at h1
    have g := text_same (parsed_gd h0) (parsed_gd h1)
    rw [← row_same, ← hp, ← hq] at g
    have e : A = B ↔ row p = row q := by
      rw [← g, hA, hB]
      refine ⟨fun h => ?_, fun h => by rw [h]⟩
      have := congrArg (fun b : ByteArray => b.data.toList) h
      simpa using this
    rw [hR, Bool.eq_iff_iff, beq_iff_eq, decide_eq_true_eq, ← e, ByteArray.toList_eq, ByteArray.toList_eq]
    exact ⟨fun h => by cases A; cases B; simp only [ByteArray.mk.injEq]; exact Array.toList_inj.1 h, fun h => by rw [h]⟩)
  have CP : Hid (∀ W, K8 W → _) := hid fun W (k : K8 W) => call_parse s W k hp hx hy hz
  have CQ : Hid (∀ W, K8 W → _) := hid fun W (k : K8 W) => call_parse t W k hq hx' hy' hz'
  have SP := hid (show Small p by rw [hp]; exact parsed_small _)
  have SQ := hid (show Small q by rw [hq]; exact parsed_small _)
  have HA := hid hA
  have HB0 := hid hB
  have HR := hid hR
  clear hp hx hy hz hq hx' hy' hz' hA hB hR
  go_enter Tryz.func5, Tryz.ntmps5
  go_wp2_with fail
  refine cA.mono ?_
  rintro e w1 ⟨rfl, b1⟩
  have BW := hid b1
  clear cA b1
  go_wp2_with fail
  refine (CP.out w1 (K.out.later BW.out)).mono ?_
  rintro e w2 ⟨ma, mc, fa, fc, ca, cc, rfl, lp, b2⟩
  have B2 := hid (BW.out.trans (b2.mono BW.out.size))
  have b2h := hid b2
  have T1 := hid (there_pf w2 29 37)
  have F1 := flt_pf w2 29 37 [.string p.name, .string p.cur, .int .i64 p.a.y, .int .i64 p.a.m, .int .i64 p.a.d, .int .i64 p.b.y, .int .i64 p.b.m, .int .i64 p.b.d, .slice ma p.meters.length mc, .slice fa p.fees.length fc, .slice ca p.charges.length cc, .int .i64 p.line, .int .i64 p.col]
  have z0 := F1.cell 0 _ rfl
  have z1 := F1.cell 1 _ rfl
  have z2 := F1.cell 2 _ rfl
  have f0 := F1.free 0
  have f1 := F1.free 1
  have f2 := F1.free 2
  have lz := F1.lt
  obtain ⟨PF, BF⟩ := pf_new (x := x) (y := y) (z := z) lp 29 37
  obtain ⟨wA, hwA⟩ : ∃ W, W = (((((w2.alloc (.cells #[.string ⟨#[]⟩, .string ⟨#[]⟩, .int .i64 0, .int .i64 0, .int .i64 0, .int .i64 0, .int .i64 0, .int .i64 0, .slice none 0 0, .slice none 0 0, .slice none 0 0, .int .i64 0, .int .i64 0] 29)).alloc (.cells #[.int .i64 0, .int .i64 0, .int .i64 0] 37)).setCells w2.heap.size 0 [.string p.name, .string p.cur, .int .i64 p.a.y, .int .i64 p.a.m, .int .i64 p.a.d, .int .i64 p.b.y, .int .i64 p.b.m, .int .i64 p.b.d, .slice ma p.meters.length mc, .slice fa p.fees.length fc, .slice ca p.charges.length cc, .int .i64 p.line, .int .i64 p.col]).setCell ⟨w2.heap.size + 1, 0, none⟩ (.int .i64 (x))).setCell ⟨w2.heap.size + 1, 1, none⟩ (.int .i64 (y))).setCell ⟨w2.heap.size + 1, 2, none⟩ (.int .i64 (z)) := ⟨_, rfl⟩
  obtain ⟨k1, hk1⟩ : ∃ k, k = w2.heap.size := ⟨_, rfl⟩
  have HPp : Hid (Pf wA k1 p ma mc fa fc ca cc x y z) := hid (by rw [hwA, hk1]; exact PF)
  have HB : Hid (Below w2.heap.size w2 wA) := hid (by rw [hwA]; exact BF)
  have HW := hid hwA
  have HK := hid hk1
  clear F1 PF BF hwA hk1 b2 lp
  unfold planC
  go_upto_region 6 with (first
    | (with_reducible refine wpList_store_mid (op := Oper.mk none (Op.store 29 (Operand.tmp 5) (Operand.tmp 22)) _ _ _ _) ?_ 29 (.tmp 5) (.tmp 22) ?_ w2.heap.size 0 #[.string p.name, .string p.cur, .int .i64 p.a.y, .int .i64 p.a.m, .int .i64 p.a.d, .int .i64 p.b.y, .int .i64 p.b.m, .int .i64 p.b.d, .slice ma p.meters.length mc, .slice fa p.fees.length fc, .slice ca p.charges.length cc, .int .i64 p.line, .int .i64 p.col] ?_ ?_ ?_ ?_ ?_ ?_; rfl; rfl; go_simp; go_simp; (simpa using T1.out); kernel_rfl; (simp [Value.oneCell']))
    | (fail))
  rw [← HW.out, ← HK.out]
  clear z0 z1 z2 f0 f1 f2 lz T1
  replace BW := hid (B2.out.trans (HB.out.mono B2.out.size))
  have HX := hid (bel_on b2h.out HB.out)
  clear B2 HW HK b2h HB
  clear HX CP
  go_wp2_with fail
  refine (CQ.out wA (K.out.later BW.out)).mono ?_
  rintro e w5 ⟨maB, mcB, faB, fcB, caB, ccB, rfl, lq, b2⟩
  have B2 := hid (BW.out.trans (b2.mono BW.out.size))
  have b2h := hid b2
  have T1 := hid (there_pf w5 29 37)
  have F1 := flt_pf w5 29 37 [.string q.name, .string q.cur, .int .i64 q.a.y, .int .i64 q.a.m, .int .i64 q.a.d, .int .i64 q.b.y, .int .i64 q.b.m, .int .i64 q.b.d, .slice maB q.meters.length mcB, .slice faB q.fees.length fcB, .slice caB q.charges.length ccB, .int .i64 q.line, .int .i64 q.col]
  have z0 := F1.cell 0 _ rfl
  have z1 := F1.cell 1 _ rfl
  have z2 := F1.cell 2 _ rfl
  have f0 := F1.free 0
  have f1 := F1.free 1
  have f2 := F1.free 2
  have lz := F1.lt
  obtain ⟨PF, BF⟩ := pf_new (x := x') (y := y') (z := z') lq 29 37
  obtain ⟨wB, hwB⟩ : ∃ W, W = (((((w5.alloc (.cells #[.string ⟨#[]⟩, .string ⟨#[]⟩, .int .i64 0, .int .i64 0, .int .i64 0, .int .i64 0, .int .i64 0, .int .i64 0, .slice none 0 0, .slice none 0 0, .slice none 0 0, .int .i64 0, .int .i64 0] 29)).alloc (.cells #[.int .i64 0, .int .i64 0, .int .i64 0] 37)).setCells w5.heap.size 0 [.string q.name, .string q.cur, .int .i64 q.a.y, .int .i64 q.a.m, .int .i64 q.a.d, .int .i64 q.b.y, .int .i64 q.b.m, .int .i64 q.b.d, .slice maB q.meters.length mcB, .slice faB q.fees.length fcB, .slice caB q.charges.length ccB, .int .i64 q.line, .int .i64 q.col]).setCell ⟨w5.heap.size + 1, 0, none⟩ (.int .i64 (x'))).setCell ⟨w5.heap.size + 1, 1, none⟩ (.int .i64 (y'))).setCell ⟨w5.heap.size + 1, 2, none⟩ (.int .i64 (z')) := ⟨_, rfl⟩
  obtain ⟨k2, hk2⟩ : ∃ k, k = w5.heap.size := ⟨_, rfl⟩
  have HPq : Hid (Pf wB k2 q maB mcB faB fcB caB ccB x' y' z') := hid (by rw [hwB, hk2]; exact PF)
  have HB : Hid (Below w5.heap.size w5 wB) := hid (by rw [hwB]; exact BF)
  have HW := hid hwB
  have HK := hid hk2
  clear F1 PF BF hwB hk2 b2 lq
  unfold planC
  go_upto_region 7 with (first
    | (with_reducible refine wpList_store_mid (op := Oper.mk none (Op.store 29 (Operand.tmp 7) (Operand.tmp 27)) _ _ _ _) ?_ 29 (.tmp 7) (.tmp 27) ?_ w5.heap.size 0 #[.string q.name, .string q.cur, .int .i64 q.a.y, .int .i64 q.a.m, .int .i64 q.a.d, .int .i64 q.b.y, .int .i64 q.b.m, .int .i64 q.b.d, .slice maB q.meters.length mcB, .slice faB q.fees.length fcB, .slice caB q.charges.length ccB, .int .i64 q.line, .int .i64 q.col] ?_ ?_ ?_ ?_ ?_ ?_; rfl; rfl; go_simp; go_simp; (simpa using T1.out); kernel_rfl; (simp [Value.oneCell']))
    | (fail))
  rw [← HW.out, ← HK.out]
  clear z0 z1 z2 f0 f1 f2 lz T1
  replace BW := hid (B2.out.trans (HB.out.mono B2.out.size))
  have HX := hid (bel_on b2h.out HB.out)
  clear B2 HW HK b2h HB
  clear CQ
  have P5 := hid (HPp.out.on HX.out)
  have c0 := P5.out.flt.cell 0 _ rfl
  have c1 := P5.out.flt.cell 1 _ rfl
  have c2 := P5.out.flt.cell 2 _ rfl
  have d0 := HPq.out.flt.cell 0 _ rfl
  have d1 := HPq.out.flt.cell 1 _ rfl
  have d2 := HPq.out.flt.cell 2 _ rfl
  clear HPp HX
  rcases (show ¬ x = 0 ∨ (x = 0 ∧ ¬ x' = 0) ∨ (x = 0 ∧ x' = 0) by omega) with hx0 | ⟨hx0, hx1⟩ | ⟨hx0, hx1⟩
  · clear HE HS HS' XZ XZ'
    go_wp2
    go_ret
    exact ⟨rfl, BW.out⟩
  · obtain ⟨rfl, rfl⟩ := XZ.out hx0
    clear HE HS HS' XZ XZ'
    subst hx0
    go_wp2
    go_ret
    exact ⟨rfl, BW.out⟩
  obtain ⟨rfl, rfl⟩ := XZ.out hx0
  obtain ⟨rfl, rfl⟩ := XZ'.out hx1
  have E2 := HE.out hx0 hx1
  have sp := hid (HS.out hx0)
  have sq := hid (HS'.out hx1)
  subst hx0
  subst hx1
  clear HE HS HS' XZ XZ'
  have HE2 := hid E2
  clear E2
  go_upto_region 9 with fail
  clear c0 c1 c2 d0 d1 d2
  have NP : Hid (∀ W, Below wB.heap.size wB W → Calls Tryz.prog 12 #[.agg #[.string p.name, .string p.cur, .int .i64 p.a.y, .int .i64 p.a.m, .int .i64 p.a.d, .int .i64 p.b.y, .int .i64 p.b.m, .int .i64 p.b.d, .slice ma p.meters.length mc, .slice fa p.fees.length fc, .slice ca p.charges.length cc, .int .i64 p.line, .int .i64 p.col]] W fun e w' => e = .returned (.string A) ∧ Below W.heap.size W w') := hid fun W b => call_show p A HA.out sp.out W (K.out.later (BW.out.trans (b.mono BW.out.size))) (P5.out.lies.on b)
  have NQ : Hid (∀ W, Below wB.heap.size wB W → Calls Tryz.prog 12 #[.agg #[.string q.name, .string q.cur, .int .i64 q.a.y, .int .i64 q.a.m, .int .i64 q.a.d, .int .i64 q.b.y, .int .i64 q.b.m, .int .i64 q.b.d, .slice maB q.meters.length mcB, .slice faB q.fees.length fcB, .slice caB q.charges.length ccB, .int .i64 q.line, .int .i64 q.col]] W fun e w' => e = .returned (.string B) ∧ Below W.heap.size W w') := hid fun W b => call_show q B HB0.out sq.out W (K.out.later (BW.out.trans (b.mono BW.out.size))) (HPq.out.lies.on b)
  have NS : Hid (∀ W, Below wB.heap.size wB W → Calls Tryz.prog 15 #[.agg #[.string p.name, .string p.cur, .int .i64 p.a.y, .int .i64 p.a.m, .int .i64 p.a.d, .int .i64 p.b.y, .int .i64 p.b.m, .int .i64 p.b.d, .slice ma p.meters.length mc, .slice fa p.fees.length fc, .slice ca p.charges.length cc, .int .i64 p.line, .int .i64 p.col], .agg #[.string q.name, .string q.cur, .int .i64 q.a.y, .int .i64 q.a.m, .int .i64 q.a.d, .int .i64 q.b.y, .int .i64 q.b.m, .int .i64 q.b.d, .slice maB q.meters.length mcB, .slice faB q.fees.length fcB, .slice caB q.charges.length ccB, .int .i64 q.line, .int .i64 q.col]] W fun e w' => e = .returned (.bool R) ∧ Below W.heap.size W w') := hid fun W b => by
    have h := same_any p q ma mc fa fc ca cc maB mcB faB fcB caB ccB W (P5.out.lies.on b) (HPq.out.lies.on b) SP.out SQ.out
    rw [← HR.out] at h
    exact h
  have KS : Hid (∀ w', Below wB.heap.size wB w' → w'.cell? ⟨k1, 0, none⟩ = some (.string p.name) ∧ w'.cell? ⟨k1, 1, none⟩ = some (.string p.cur) ∧ w'.cell? ⟨k1, 2, none⟩ = some (.int .i64 p.a.y) ∧ w'.cell? ⟨k1, 3, none⟩ = some (.int .i64 p.a.m) ∧ w'.cell? ⟨k1, 4, none⟩ = some (.int .i64 p.a.d) ∧ w'.cell? ⟨k1, 5, none⟩ = some (.int .i64 p.b.y) ∧ w'.cell? ⟨k1, 6, none⟩ = some (.int .i64 p.b.m) ∧ w'.cell? ⟨k1, 7, none⟩ = some (.int .i64 p.b.d) ∧ w'.cell? ⟨k1, 8, none⟩ = some (.slice ma p.meters.length mc) ∧ w'.cell? ⟨k1, 9, none⟩ = some (.slice fa p.fees.length fc) ∧ w'.cell? ⟨k1, 10, none⟩ = some (.slice ca p.charges.length cc) ∧ w'.cell? ⟨k1, 11, none⟩ = some (.int .i64 p.line) ∧ w'.cell? ⟨k1, 12, none⟩ = some (.int .i64 p.col) ∧ w'.cell? ⟨k2, 0, none⟩ = some (.string q.name) ∧ w'.cell? ⟨k2, 1, none⟩ = some (.string q.cur) ∧ w'.cell? ⟨k2, 2, none⟩ = some (.int .i64 q.a.y) ∧ w'.cell? ⟨k2, 3, none⟩ = some (.int .i64 q.a.m) ∧ w'.cell? ⟨k2, 4, none⟩ = some (.int .i64 q.a.d) ∧ w'.cell? ⟨k2, 5, none⟩ = some (.int .i64 q.b.y) ∧ w'.cell? ⟨k2, 6, none⟩ = some (.int .i64 q.b.m) ∧ w'.cell? ⟨k2, 7, none⟩ = some (.int .i64 q.b.d) ∧ w'.cell? ⟨k2, 8, none⟩ = some (.slice maB q.meters.length mcB) ∧ w'.cell? ⟨k2, 9, none⟩ = some (.slice faB q.fees.length fcB) ∧ w'.cell? ⟨k2, 10, none⟩ = some (.slice caB q.charges.length ccB) ∧ w'.cell? ⟨k2, 11, none⟩ = some (.int .i64 q.line) ∧ w'.cell? ⟨k2, 12, none⟩ = some (.int .i64 q.col) ∧ Below wB.heap.size wB w') := hid fun w' b => by
    have X := P5.out.box.on b
    have Y := HPq.out.box.on b
    exact ⟨X.cell 0 _ rfl, X.cell 1 _ rfl, X.cell 2 _ rfl, X.cell 3 _ rfl, X.cell 4 _ rfl, X.cell 5 _ rfl, X.cell 6 _ rfl, X.cell 7 _ rfl, X.cell 8 _ rfl, X.cell 9 _ rfl, X.cell 10 _ rfl, X.cell 11 _ rfl, X.cell 12 _ rfl, Y.cell 0 _ rfl, Y.cell 1 _ rfl, Y.cell 2 _ rfl, Y.cell 3 _ rfl, Y.cell 4 _ rfl, Y.cell 5 _ rfl, Y.cell 6 _ rfl, Y.cell 7 _ rfl, Y.cell 8 _ rfl, Y.cell 9 _ rfl, Y.cell 10 _ rfl, Y.cell 11 _ rfl, Y.cell 12 _ rfl, b⟩
  have BB := hid (Below.drew (Below.refl wB.heap.size wB))
  clear P5 HPq HA HB0 SP SQ sp sq HR K
  go_region_held_law (fun w' => w'.cell? ⟨k1, 0, none⟩ = some (.string p.name) ∧ w'.cell? ⟨k1, 1, none⟩ = some (.string p.cur) ∧ w'.cell? ⟨k1, 2, none⟩ = some (.int .i64 p.a.y) ∧ w'.cell? ⟨k1, 3, none⟩ = some (.int .i64 p.a.m) ∧ w'.cell? ⟨k1, 4, none⟩ = some (.int .i64 p.a.d) ∧ w'.cell? ⟨k1, 5, none⟩ = some (.int .i64 p.b.y) ∧ w'.cell? ⟨k1, 6, none⟩ = some (.int .i64 p.b.m) ∧ w'.cell? ⟨k1, 7, none⟩ = some (.int .i64 p.b.d) ∧ w'.cell? ⟨k1, 8, none⟩ = some (.slice ma p.meters.length mc) ∧ w'.cell? ⟨k1, 9, none⟩ = some (.slice fa p.fees.length fc) ∧ w'.cell? ⟨k1, 10, none⟩ = some (.slice ca p.charges.length cc) ∧ w'.cell? ⟨k1, 11, none⟩ = some (.int .i64 p.line) ∧ w'.cell? ⟨k1, 12, none⟩ = some (.int .i64 p.col) ∧ w'.cell? ⟨k2, 0, none⟩ = some (.string q.name) ∧ w'.cell? ⟨k2, 1, none⟩ = some (.string q.cur) ∧ w'.cell? ⟨k2, 2, none⟩ = some (.int .i64 q.a.y) ∧ w'.cell? ⟨k2, 3, none⟩ = some (.int .i64 q.a.m) ∧ w'.cell? ⟨k2, 4, none⟩ = some (.int .i64 q.a.d) ∧ w'.cell? ⟨k2, 5, none⟩ = some (.int .i64 q.b.y) ∧ w'.cell? ⟨k2, 6, none⟩ = some (.int .i64 q.b.m) ∧ w'.cell? ⟨k2, 7, none⟩ = some (.int .i64 q.b.d) ∧ w'.cell? ⟨k2, 8, none⟩ = some (.slice maB q.meters.length mcB) ∧ w'.cell? ⟨k2, 9, none⟩ = some (.slice faB q.fees.length fcB) ∧ w'.cell? ⟨k2, 10, none⟩ = some (.slice caB q.charges.length ccB) ∧ w'.cell? ⟨k2, 11, none⟩ = some (.int .i64 q.line) ∧ w'.cell? ⟨k2, 12, none⟩ = some (.int .i64 q.col) ∧ Below wB.heap.size wB w')
    ((refine KS.out _ ?_; exact BB.out))
    (first
      | (go_at_call 15
         refine (NS.out _ BB.out).mono ?_
         rintro e w' ⟨rfl, b⟩
         replace BB := hid (BB.out.trans (b.mono BB.out.size))
         clear b)
      | (go_at_call_of 12 (Value.agg #[.string p.name, .string p.cur, .int .i64 p.a.y, .int .i64 p.a.m, .int .i64 p.a.d, .int .i64 p.b.y, .int .i64 p.b.m, .int .i64 p.b.d, .slice ma p.meters.length mc, .slice fa p.fees.length fc, .slice ca p.charges.length cc, .int .i64 p.line, .int .i64 p.col])
         refine (NP.out _ BB.out).mono ?_
         rintro e w' ⟨rfl, b⟩
         replace BB := hid (BB.out.trans (b.mono BB.out.size))
         clear b)
      | (go_at_call 12
         refine (NQ.out _ BB.out).mono ?_
         rintro e w' ⟨rfl, b⟩
         replace BB := hid (BB.out.trans (b.mono BB.out.size))
         clear b))
  all_goals
    have E2 := HE2.out
    go_wp2
    go_ret
    exact ⟨by simp [E2], BW.out.trans (BB.out.mono BW.out.size)⟩
end Go.Proofs.YteelbdcgdkpioaaGreatDoor.L08

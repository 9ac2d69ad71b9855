/- The laws of layer 7: alive. -/
import Derived.Test.YtinadkgfhoibkaaDoorJL07
namespace Go.Proofs.YtinadkgfhoibkaaDoor.L07
open Go.RowKit Go.Sort P Mm Md Pa

/-- There is room for a plan in a block that was made as the last but one. -/
theorem there_pf (w : World) (t u : TypeId) : ((w.alloc (.cells #[.string ⟨#[]⟩, .string ⟨#[]⟩, .int .i64 0, .int .i64 0, .int .i64 0, .int .i64 0, .int .i64 0, .int .i64 0, .slice none 0 0, .slice none 0 0, .slice none 0 0, .int .i64 0, .int .i64 0] t)).alloc (.cells #[.int .i64 0, .int .i64 0, .int .i64 0] u)).there w.heap.size 0 13 := by
  have B := (Bx.new w [.string ⟨#[]⟩, .string ⟨#[]⟩, .int .i64 0, .int .i64 0, .int .i64 0, .int .i64 0, .int .i64 0, .int .i64 0, .slice none 0 0, .slice none 0 0, .slice none 0 0, .int .i64 0, .int .i64 0] t).on (bel_alloc (w.alloc (.cells #[.string ⟨#[]⟩, .string ⟨#[]⟩, .int .i64 0, .int .i64 0, .int .i64 0, .int .i64 0, .int .i64 0, .int .i64 0, .slice none 0 0, .slice none 0 0, .slice none 0 0, .int .i64 0, .int .i64 0] t)) (.cells #[.int .i64 0, .int .i64 0, .int .i64 0] u))
  exact there_of B.cell B.free rfl
theorem flt_pf (w : World) (t u : TypeId) (vs : List Value) : Bx (((w.alloc (.cells #[.string ⟨#[]⟩, .string ⟨#[]⟩, .int .i64 0, .int .i64 0, .int .i64 0, .int .i64 0, .int .i64 0, .int .i64 0, .slice none 0 0, .slice none 0 0, .slice none 0 0, .int .i64 0, .int .i64 0] t)).alloc (.cells #[.int .i64 0, .int .i64 0, .int .i64 0] u)).setCells w.heap.size 0 vs) (w.heap.size + 1) [.int .i64 0, .int .i64 0, .int .i64 0] := by
  have s1 : (w.alloc (.cells #[.string ⟨#[]⟩, .string ⟨#[]⟩, .int .i64 0, .int .i64 0, .int .i64 0, .int .i64 0, .int .i64 0, .int .i64 0, .slice none 0 0, .slice none 0 0, .slice none 0 0, .int .i64 0, .int .i64 0] t)).heap.size = w.heap.size + 1 := by simp
  have B := Bx.new (w.alloc (.cells #[.string ⟨#[]⟩, .string ⟨#[]⟩, .int .i64 0, .int .i64 0, .int .i64 0, .int .i64 0, .int .i64 0, .int .i64 0, .slice none 0 0, .slice none 0 0, .slice none 0 0, .int .i64 0, .int .i64 0] t)) [.int .i64 0, .int .i64 0, .int .i64 0] u
  rw [s1] at B
  exact bx_setCells (k := w.heap.size) (by omega) vs 0 _ B
set_option maxHeartbeats 4000000 in
set_option maxRecDepth 100000 in
theorem alive_any (w : World) (k : Ky w) : Calls Tryd.prog 6 #[] w fun e w' => e = .returned (.bool true) ∧ Below w.heap.size w w' := by
  have cA := call_a w k
  have K := hid k
  clear k
  go_enter Tryd.func6, Tryd.ntmps6
  go_wp2_with fail
  refine cA.mono ?_
  rintro e w1 ⟨p, ma, mc, fa, fc, ca, cc, fA, rfl, lA, b1⟩
  have HF := hid fA
  clear fA
  have T1 := hid (there_pf w1 29 32)
  have F1 := flt_pf w1 29 32 [.string p.name, .string p.cur, .int .i64 p.a.y, .int .i64 p.a.m, .int .i64 p.a.d, .int .i64 p.b.y, .int .i64 p.b.m, .int .i64 p.b.d, .slice ma p.meters.length mc, .slice fa p.fees.length fc, .slice ca p.charges.length cc, .int .i64 p.line, .int .i64 p.col]
  have z0 := F1.cell 0 _ rfl
  have z1 := F1.cell 1 _ rfl
  have z2 := F1.cell 2 _ rfl
  have f0 := F1.free 0
  have f1 := F1.free 1
  have f2 := F1.free 2
  have lz := F1.lt
  obtain ⟨PF, BF⟩ := pf_new (x := 0) (y := 0) (z := 0) lA 29 32
  obtain ⟨wA, hwA⟩ : ∃ W, W = (((((w1.alloc (.cells #[.string ⟨#[]⟩, .string ⟨#[]⟩, .int .i64 0, .int .i64 0, .int .i64 0, .int .i64 0, .int .i64 0, .int .i64 0, .slice none 0 0, .slice none 0 0, .slice none 0 0, .int .i64 0, .int .i64 0] 29)).alloc (.cells #[.int .i64 0, .int .i64 0, .int .i64 0] 32)).setCells w1.heap.size 0 [.string p.name, .string p.cur, .int .i64 p.a.y, .int .i64 p.a.m, .int .i64 p.a.d, .int .i64 p.b.y, .int .i64 p.b.m, .int .i64 p.b.d, .slice ma p.meters.length mc, .slice fa p.fees.length fc, .slice ca p.charges.length cc, .int .i64 p.line, .int .i64 p.col]).setCell ⟨w1.heap.size + 1, 0, none⟩ (.int .i64 (0))).setCell ⟨w1.heap.size + 1, 1, none⟩ (.int .i64 (0))).setCell ⟨w1.heap.size + 1, 2, none⟩ (.int .i64 (0)) := ⟨_, rfl⟩
  obtain ⟨k1, hk1⟩ : ∃ k, k = w1.heap.size := ⟨_, rfl⟩
  have HP1 : Hid (Pf wA k1 p ma mc fa fc ca cc (0) (0) (0)) := hid (by rw [hwA, hk1]; exact PF)
  have HB1 : Hid (Below w1.heap.size w1 wA) := hid (by rw [hwA]; exact BF)
  have HW1 := hid hwA
  have HK1 := hid hk1
  clear F1 PF BF hwA hk1
  unfold planC
  go_upto_region 2 with (first
    | (with_reducible refine wpList_store_mid (op := Oper.mk none (Op.store 29 (Operand.tmp 1) (Operand.tmp 7)) _ _ _ _) ?_ 29 (.tmp 1) (.tmp 7) ?_ w1.heap.size 0 #[.string p.name, .string p.cur, .int .i64 p.a.y, .int .i64 p.a.m, .int .i64 p.a.d, .int .i64 p.b.y, .int .i64 p.b.m, .int .i64 p.b.d, .slice ma p.meters.length mc, .slice fa p.fees.length fc, .slice ca p.charges.length cc, .int .i64 p.line, .int .i64 p.col] ?_ ?_ ?_ ?_ ?_ ?_; rfl; rfl; go_simp; go_simp; (simpa using T1.out); kernel_rfl; (simp [Value.oneCell']))
    | (fail))
  rw [← HW1.out, ← HK1.out]
  clear z0 z1 z2 f0 f1 f2 lz T1
  have kA := K.out.later (b1.trans (HB1.out.mono b1.size))
  have cB := call_b wA kA
  have BA := hid (b1.trans (HB1.out.mono b1.size))
  clear cA lA b1 kA
  go_wp2_with fail
  refine cB.mono ?_
  rintro e w2 ⟨q, maB, mcB, faB, fcB, caB, ccB, rfl, lB, b2⟩
  have P1 := hid (HP1.out.on b2)
  have B2 := hid (BA.out.trans (b2.mono BA.out.size))
  clear cB b2
  have T3 := hid (there_pf w2 29 32)
  have F3 := flt_pf w2 29 32 [.string q.name, .string q.cur, .int .i64 q.a.y, .int .i64 q.a.m, .int .i64 q.a.d, .int .i64 q.b.y, .int .i64 q.b.m, .int .i64 q.b.d, .slice maB q.meters.length mcB, .slice faB q.fees.length fcB, .slice caB q.charges.length ccB, .int .i64 q.line, .int .i64 q.col]
  have z0 := F3.cell 0 _ rfl
  have z1 := F3.cell 1 _ rfl
  have z2 := F3.cell 2 _ rfl
  have f0 := F3.free 0
  have f1 := F3.free 1
  have f2 := F3.free 2
  have lz := F3.lt
  obtain ⟨PF, BF⟩ := pf_new (x := 4) (y := 1) (z := 57) lB 29 32
  obtain ⟨wB, hwB⟩ : ∃ W, W = (((((w2.alloc (.cells #[.string ⟨#[]⟩, .string ⟨#[]⟩, .int .i64 0, .int .i64 0, .int .i64 0, .int .i64 0, .int .i64 0, .int .i64 0, .slice none 0 0, .slice none 0 0, .slice none 0 0, .int .i64 0, .int .i64 0] 29)).alloc (.cells #[.int .i64 0, .int .i64 0, .int .i64 0] 32)).setCells w2.heap.size 0 [.string q.name, .string q.cur, .int .i64 q.a.y, .int .i64 q.a.m, .int .i64 q.a.d, .int .i64 q.b.y, .int .i64 q.b.m, .int .i64 q.b.d, .slice maB q.meters.length mcB, .slice faB q.fees.length fcB, .slice caB q.charges.length ccB, .int .i64 q.line, .int .i64 q.col]).setCell ⟨w2.heap.size + 1, 0, none⟩ (.int .i64 (4))).setCell ⟨w2.heap.size + 1, 1, none⟩ (.int .i64 (1))).setCell ⟨w2.heap.size + 1, 2, none⟩ (.int .i64 (57)) := ⟨_, rfl⟩
  obtain ⟨k3, hk3⟩ : ∃ k, k = w2.heap.size := ⟨_, rfl⟩
  have HP3 : Hid (Pf wB k3 q maB mcB faB fcB caB ccB (4) (1) (57)) := hid (by rw [hwB, hk3]; exact PF)
  have HB3 : Hid (Below w2.heap.size w2 wB) := hid (by rw [hwB]; exact BF)
  have HW3 := hid hwB
  have HK3 := hid hk3
  clear F3 PF BF hwB hk3
  unfold planC
  go_upto_region 3 with (first
    | (with_reducible refine wpList_store_mid (op := Oper.mk none (Op.store 29 (Operand.tmp 3) (Operand.tmp 11)) _ _ _ _) ?_ 29 (.tmp 3) (.tmp 11) ?_ w2.heap.size 0 #[.string q.name, .string q.cur, .int .i64 q.a.y, .int .i64 q.a.m, .int .i64 q.a.d, .int .i64 q.b.y, .int .i64 q.b.m, .int .i64 q.b.d, .slice maB q.meters.length mcB, .slice faB q.fees.length fcB, .slice caB q.charges.length ccB, .int .i64 q.line, .int .i64 q.col] ?_ ?_ ?_ ?_ ?_ ?_; rfl; rfl; go_simp; go_simp; (simpa using T3.out); kernel_rfl; (simp [Value.oneCell']))
    | (fail))
  rw [← HW3.out, ← HK3.out]
  clear z0 z1 z2 f0 f1 f2 lz T3
  have P2 := P1.out.on HB3.out
  have c0 := P2.flt.cell 0 _ rfl
  have c1 := P2.flt.cell 1 _ rfl
  have c2 := P2.flt.cell 2 _ rfl
  have c9 : wB.cell? ⟨k1, 9, none⟩ = some (.slice fa 1 fc) := by
    have := P2.box.cell 9 _ rfl
    rw [HF.out] at this
    exact this
  have e0 := HP3.out.flt.cell 0 _ rfl
  have e1 := HP3.out.flt.cell 1 _ rfl
  have e2 := HP3.out.flt.cell 2 _ rfl
  obtain ⟨fb, fo, cs, hfa, _, hcs, hc⟩ := P2.lies.fees.at (j := 0) (x := ⟨5, ⟨true, ⟨2024, 1, 1⟩, ⟨2024, 1, 31⟩⟩, 1, 53⟩) (by rw [HF.out]; rfl)
  subst hfa
  obtain ⟨rfl, _⟩ := hcs
  have d0 : wB.cell? ⟨fb, fo, none⟩ = some (.int .i64 5) := by
    have := hc 0 _ rfl
    rwa [show fo + 0 * tFee.n + 0 = fo by omega] at this
  have d1 : wB.cell? ⟨fb, fo + 1, none⟩ = some (.bool true) := by
    have := hc 1 _ rfl
    rwa [show fo + 0 * tFee.n + 1 = fo + 1 by omega] at this
  have BB := hid (B2.out.trans (HB3.out.mono B2.out.size))
  clear hc P2 lB
  go_wp2
  go_ret
  exact ⟨rfl, BB.out⟩
end Go.Proofs.YtinadkgfhoibkaaDoor.L07

/- The laws of layer 7: ParseItems, where both texts are plans. -/
import Derived.Test.YtinadkgfhoibkaaDoorJJoin
import Derived.Test.YtinadkgfhoibkaaDoorJParI
import Derived.Deep.RegionHeldLaw
import Derived.Test.YtinadkgfhoibkaaDoorJDate
import Derived.Lib.LaidTab
import Derived.MakeChecks
import Derived.Stop.LaidErr
import Derived.HandedShaped
import Derived.Lay
namespace Go.Proofs.YtinadkgfhoibkaaDoor.L07
open Go.RowKit Go.Sort P Mm Md Pa L05 R6

theorem Gk.of {w w' : World} {k : Nat} (h : Below w.heap.size w w') : Gk w k w' := ⟨h.os, h.tape, h.output, h.size, fun j hj _ => h.block j hj⟩
theorem info_meterJ : (Tryd.prog.info? 73).map (fun i => (i.zero, i.size, i.bytes)) = some (some (.agg (meterC ⟨⟨#[]⟩, ⟨#[]⟩, 0, 0, 0⟩).toArray), 5, 56) := by kernel_rfl
theorem info_feeJ : (Tryd.prog.info? 47).map (fun i => (i.zero, i.size, i.bytes)) = some (some (.agg (feeC ⟨0, ⟨false, ⟨0, 0, 0⟩, ⟨0, 0, 0⟩⟩, 0, 0⟩).toArray), 10, 80) := by kernel_rfl
theorem info_chargeJ : (Tryd.prog.info? 77).map (fun i => (i.zero, i.size, i.bytes)) = some (some (.agg (chargeC ⟨⟨#[]⟩, ⟨false, ⟨0, 0, 0⟩, ⟨0, 0, 0⟩⟩, 0, 0, 0, [], 0, [], 0, 0⟩ none 0 none 0).toArray), 16, 168) := by kernel_rfl
theorem wpList_load_midg {P : Program} {ops : Array Oper} {rest : List Oper} {op : Oper} {a : Act} {w : World} {Q : Exit → Act → World → Prop} (hw : Region.wanted op (yielded ops a.tmps) = true) (ty : TypeId) (x : Operand) (ho : op.op = .load ty x)
    (b o : Nat) (hx : a.eval x = .pointer (some ⟨b, o, none⟩)) (cs : List Value) (d : TypeDesc) (hc : w.rangeAt b o cs)
    (hu : P.underlying ty = some d) (hd : d.isRow = true) (hi : (P.info? ty).map (·.size) = some cs.length)
    (h : wpList P ops Q rest (a.put op.dst (.agg cs.toArray)) w) : wpList P ops Q (op :: rest) a w :=
  wpList_step fun _ hK => by simp only [hw, if_true]; exact wp_load_mid ty x ho b o hx cs d hc hu hd hi (hK _ _ h)
theorem bel_join {wD W W' : World} {v : Value} (b : Below wD.heap.size wD W) (g : W.grownBy W' v.ownBlock) (hv : ∀ k, v.ownBlock = some k → wD.heap.size ≤ k) : Below wD.heap.size wD W' :=
  b.grown g b.size hv
theorem own_far {W : World} {base : Nat} {e : TypeId} {size n : Nat} {v : Value} {xs : List Value} (h : W.ownsRow base e size v n xs) {k : Nat} (hk : k < base) (i : Nat) (u : Value) : (W.setCell ⟨k, i, none⟩ u).ownsRow base e size v n xs :=
  ownsRow_setCell_below h hk u
/-- The plan with both plans' rows, in memory. -/
theorem with_lies {w : World} {p q : Plan} {ma ca fa : Option Addr} {mc fc cc : Nat} {am af ac : Option Addr} {cm cf cz : Nat}
    (h : PlanLies w (planC p ma mc fa fc ca cc) p ma mc fa fc ca cc)
    (h1 : Row tMeter w am (p.meters.length + q.meters.length) cm (p.meters ++ q.meters)) (h2 : Row tFee w af (p.fees.length + q.fees.length) cf (p.fees ++ q.fees)) (h3 : Row tCharge w ac (p.charges.length + q.charges.length) cz (p.charges ++ q.charges)) :
    PlanLies w (planC (withOf p q) am cm af cf ac cz) (withOf p q) am cm af cf ac cz := by
  refine ⟨rfl, ?_, ?_, ?_, h.name, h.days, h.place⟩
  · show Row tMeter w am (p.meters ++ q.meters).length cm _; rw [List.length_append]; exact h1
  · show Row tFee w af (p.fees ++ q.fees).length cf _; rw [List.length_append]; exact h2
  · show Row tCharge w ac (p.charges ++ q.charges).length cz _; rw [List.length_append]; exact h3
structure Cnt (p q : Plan) : Prop where
  m1 : 0 + p.meters.length ≤ 1000000000
  m2 : p.meters.length + q.meters.length ≤ 1000000000
  f1 : 0 + p.fees.length ≤ 1000000000
  f2 : p.fees.length + q.fees.length ≤ 1000000000
  c1 : 0 + p.charges.length ≤ 1000000000
  c2 : p.charges.length + q.charges.length ≤ 1000000000
theorem cnt_of {p q : Plan} (h : Small (withOf p q)) : Cnt p q := by
  have h1 := h.meters
  have h2 := h.fees
  have h3 := h.charges
  unfold withOf at h1 h2 h3
  simp only [List.length_append] at h1 h2 h3
  exact ⟨by omega, by omega, by omega, by omega, by omega, by omega⟩
set_option maxHeartbeats 40000000 in
set_option maxRecDepth 100000 in
theorem items_good (a b : ByteArray) (w : World) (k : Ky w) (ha : a.size ≤ 4096) (hb : b.size ≤ 2048) (ha0 : (parsed a.data.toList).2.1 = 0) (hb0 : (parsed (headT ++ 10 :: b.data.toList)).2.1 = 0) : Calls Tryd.prog 3 #[.string a, .string b] w fun e w' => e = .returned (.bool true) ∧ Below w.heap.size w w' := by
  have cA := alive_any w k
  have K := hid k
  have g1 : ¬ (4096 : Int) < (a.size : Int) := by omega
  have g2 : ¬ (2048 : Int) < (b.size : Int) := by omega
  have cP := fun W k => parse_lies a W k
  have cQ := fun W k => parse_lies (⟨#[112, 108, 97, 110, 32, 112, 32, 99, 117, 114, 114, 101, 110, 99, 121, 32, 99, 59, 32, 104, 111, 114, 105, 122, 111, 110, 32, 50, 48, 50, 52, 45, 48, 49, 45, 48, 49, 32, 50, 48, 50, 52, 45, 48, 49, 45, 48, 50, 59, 10]⟩ ++ b) W k
  have cR := fun W k => parse_lies (a ++ ⟨#[10]⟩ ++ b) W k
  unfold fl3 at cP cQ cR
  rw [head_text] at cQ
  rw [both_text] at cR
  have hal : a.data.toList.length = a.size := by simp
  have hbl : b.data.toList.length = b.size := by simp
  obtain ⟨IP, IP2⟩ := items_pure a.data.toList b.data.toList (by omega) (by omega) ha0
  obtain ⟨IR, IS⟩ := IP2 hb0
  have SR : Small (parsed (a.data.toList ++ 10 :: b.data.toList)).1 := parsed_small _
  have hc0 : (parsed (a.data.toList ++ 10 :: b.data.toList)).2.1 = 0 := IP.trans hb0
  have ZA := parsed_zero ha0
  have ZB := parsed_zero hb0
  have ZC := parsed_zero hc0
  obtain ⟨p, hp⟩ : ∃ p, p = (parsed a.data.toList).1 := ⟨_, rfl⟩
  obtain ⟨x, hx⟩ : ∃ x, x = (parsed a.data.toList).2.1 := ⟨_, rfl⟩
  obtain ⟨y, hy⟩ : ∃ y, y = (parsed a.data.toList).2.2.1 := ⟨_, rfl⟩
  obtain ⟨z, hz⟩ : ∃ z, z = (parsed a.data.toList).2.2.2 := ⟨_, rfl⟩
  obtain ⟨q, hq⟩ : ∃ p, p = (parsed (headT ++ 10 :: b.data.toList)).1 := ⟨_, rfl⟩
  obtain ⟨x', hx'⟩ : ∃ x, x = (parsed (headT ++ 10 :: b.data.toList)).2.1 := ⟨_, rfl⟩
  obtain ⟨y', hy'⟩ : ∃ y, y = (parsed (headT ++ 10 :: b.data.toList)).2.2.1 := ⟨_, rfl⟩
  obtain ⟨z', hz'⟩ : ∃ z, z = (parsed (headT ++ 10 :: b.data.toList)).2.2.2 := ⟨_, rfl⟩
  obtain ⟨r, hr⟩ : ∃ p, p = (parsed (a.data.toList ++ 10 :: b.data.toList)).1 := ⟨_, rfl⟩
  obtain ⟨x2, hx2⟩ : ∃ x, x = (parsed (a.data.toList ++ 10 :: b.data.toList)).2.1 := ⟨_, rfl⟩
  obtain ⟨y2, hy2⟩ : ∃ y, y = (parsed (a.data.toList ++ 10 :: b.data.toList)).2.2.1 := ⟨_, rfl⟩
  obtain ⟨z2', hz2⟩ : ∃ z, z = (parsed (a.data.toList ++ 10 :: b.data.toList)).2.2.2 := ⟨_, rfl⟩
  rw [← hp, ← hx, ← hy, ← hz] at cP
  rw [← hq, ← hx', ← hy', ← hz'] at cQ
  rw [← hr, ← hx2, ← hy2, ← hz2] at cR
  rw [← hr, ← hp, ← hq] at IR
  rw [← hp, ← hq] at IS
  rw [← hr] at SR
  rw [← hx] at ha0
  rw [← hx'] at hb0
  rw [← hx2] at hc0
  rw [← hy, ← hz] at ZA
  rw [← hy', ← hz'] at ZB
  rw [← hy2, ← hz2] at ZC
  have HZ : Hid (x = 0 ∧ (y = 0 ∧ z = 0) ∧ x' = 0 ∧ (y' = 0 ∧ z' = 0) ∧ x2 = 0 ∧ (y2 = 0 ∧ z2' = 0)) := hid ⟨ha0, ZA, hb0, ZB, hc0, ZC⟩
  have HIR := hid IR
  have HIS := hid IS
  have HSR := hid SR
  have CP := hid cP
  have CQ := hid cQ
  have CR := hid cR
  have s1 : ¬ 9223372036854775807 < 50 + b.size := by omega
  have s2 : ¬ 9223372036854775807 < a.size + 1 := by omega
  have s3 : ¬ 9223372036854775807 < a.size + 1 + b.size := by omega
  clear cP cQ cR IP IP2 IR IS SR ha0 hb0 hc0 ZA ZB ZC hp hx hy hz hq hx' hy' hz' hr hx2 hy2 hz2 hal hbl k
  go_enter Tryd.func3, Tryd.ntmps3
  go_wp2_with fail
  refine cA.mono ?_
  rintro e w1 ⟨rfl, b1⟩
  have K1 := hid (K.out.later b1)
  clear cA
  go_wp2_with fail
  refine (CP.out w1 K1.out).mono ?_
  rintro e w2 ⟨ma, mc, fa, fc, ca, cc, rfl, lA, b2⟩
  have B2 := hid (bel_on b1 b2)
  clear b1 b2
  have T1 := hid (there_pf w2 29 32)
  have F1 := flt_pf w2 29 32 [.string p.name, .string p.cur, .int .i64 p.a.y, .int .i64 p.a.m, .int .i64 p.a.d, .int .i64 p.b.y, .int .i64 p.b.m, .int .i64 p.b.d, .slice ma p.meters.length mc, .slice fa p.fees.length fc, .slice ca p.charges.length cc, .int .i64 p.line, .int .i64 p.col]
  have z0 := F1.cell 0 _ rfl
  have z1 := F1.cell 1 _ rfl
  have z2 := F1.cell 2 _ rfl
  have f0 := F1.free 0
  have f1 := F1.free 1
  have f2 := F1.free 2
  have lz := F1.lt
  obtain ⟨PF, BF⟩ := pf_new (x := x) (y := y) (z := z) lA 29 32
  obtain ⟨wA, hwA⟩ : ∃ W, W = (((((w2.alloc (.cells #[.string ⟨#[]⟩, .string ⟨#[]⟩, .int .i64 0, .int .i64 0, .int .i64 0, .int .i64 0, .int .i64 0, .int .i64 0, .slice none 0 0, .slice none 0 0, .slice none 0 0, .int .i64 0, .int .i64 0] 29)).alloc (.cells #[.int .i64 0, .int .i64 0, .int .i64 0] 32)).setCells w2.heap.size 0 [.string p.name, .string p.cur, .int .i64 p.a.y, .int .i64 p.a.m, .int .i64 p.a.d, .int .i64 p.b.y, .int .i64 p.b.m, .int .i64 p.b.d, .slice ma p.meters.length mc, .slice fa p.fees.length fc, .slice ca p.charges.length cc, .int .i64 p.line, .int .i64 p.col]).setCell ⟨w2.heap.size + 1, 0, none⟩ (.int .i64 (x))).setCell ⟨w2.heap.size + 1, 1, none⟩ (.int .i64 (y))).setCell ⟨w2.heap.size + 1, 2, none⟩ (.int .i64 (z)) := ⟨_, rfl⟩
  obtain ⟨k1, hk1⟩ : ∃ k, k = w2.heap.size := ⟨_, rfl⟩
  have HP1 : Hid (Pf wA k1 p ma mc fa fc ca cc (x) (y) (z)) := hid (by rw [hwA, hk1]; exact PF)
  have HB1 : Hid (Below w2.heap.size w2 wA) := hid (by rw [hwA]; exact BF)
  have HW1 := hid hwA
  have HK1 := hid hk1
  clear F1 PF BF hwA hk1
  unfold planC
  go_upto_region 7 with (first
    | (with_reducible refine wpList_store_mid (op := Oper.mk none (Op.store 29 (Operand.tmp 6) (Operand.tmp 26)) _ _ _ _) ?_ 29 (.tmp 6) (.tmp 26) ?_ w2.heap.size 0 #[.string p.name, .string p.cur, .int .i64 p.a.y, .int .i64 p.a.m, .int .i64 p.a.d, .int .i64 p.b.y, .int .i64 p.b.m, .int .i64 p.b.d, .slice ma p.meters.length mc, .slice fa p.fees.length fc, .slice ca p.charges.length cc, .int .i64 p.line, .int .i64 p.col] ?_ ?_ ?_ ?_ ?_ ?_; rfl; rfl; go_simp; go_simp; (simpa using T1.out); kernel_rfl; (simp [Value.oneCell']))
    | (fail))
  rw [← HW1.out, ← HK1.out]
  clear z0 z1 z2 f0 f1 f2 lz T1
  have BA := hid (bel_on B2.out HB1.out)
  have KA := hid (K.out.later BA.out)
  clear B2 HB1 HW1 HK1 lA K1 CP
  go_wp2_with fail
  refine (CQ.out wA KA.out).mono ?_
  rintro e w3 ⟨maB, mcB, faB, fcB, caB, ccB, rfl, lB, b3⟩
  have P1 := hid (HP1.out.on b3)
  have B3 := hid (bel_on BA.out b3)
  clear b3 HP1 KA BA
  have T2 := hid (there_pf w3 29 32)
  have F2 := flt_pf w3 29 32 [.string q.name, .string q.cur, .int .i64 q.a.y, .int .i64 q.a.m, .int .i64 q.a.d, .int .i64 q.b.y, .int .i64 q.b.m, .int .i64 q.b.d, .slice maB q.meters.length mcB, .slice faB q.fees.length fcB, .slice caB q.charges.length ccB, .int .i64 q.line, .int .i64 q.col]
  have z0 := F2.cell 0 _ rfl
  have z1 := F2.cell 1 _ rfl
  have z2 := F2.cell 2 _ rfl
  have f0 := F2.free 0
  have f1 := F2.free 1
  have f2 := F2.free 2
  have lz := F2.lt
  obtain ⟨PF, BF⟩ := pf_new (x := x') (y := y') (z := z') lB 29 32
  obtain ⟨wB, hwB⟩ : ∃ W, W = (((((w3.alloc (.cells #[.string ⟨#[]⟩, .string ⟨#[]⟩, .int .i64 0, .int .i64 0, .int .i64 0, .int .i64 0, .int .i64 0, .int .i64 0, .slice none 0 0, .slice none 0 0, .slice none 0 0, .int .i64 0, .int .i64 0] 29)).alloc (.cells #[.int .i64 0, .int .i64 0, .int .i64 0] 32)).setCells w3.heap.size 0 [.string q.name, .string q.cur, .int .i64 q.a.y, .int .i64 q.a.m, .int .i64 q.a.d, .int .i64 q.b.y, .int .i64 q.b.m, .int .i64 q.b.d, .slice maB q.meters.length mcB, .slice faB q.fees.length fcB, .slice caB q.charges.length ccB, .int .i64 q.line, .int .i64 q.col]).setCell ⟨w3.heap.size + 1, 0, none⟩ (.int .i64 (x'))).setCell ⟨w3.heap.size + 1, 1, none⟩ (.int .i64 (y'))).setCell ⟨w3.heap.size + 1, 2, none⟩ (.int .i64 (z')) := ⟨_, rfl⟩
  obtain ⟨k2, hk2⟩ : ∃ k, k = w3.heap.size := ⟨_, rfl⟩
  have HP2 : Hid (Pf wB k2 q maB mcB faB fcB caB ccB (x') (y') (z')) := hid (by rw [hwB, hk2]; exact PF)
  have HB2 : Hid (Below w3.heap.size w3 wB) := hid (by rw [hwB]; exact BF)
  have HW2 := hid hwB
  have HK2 := hid hk2
  clear F2 PF BF hwB hk2
  unfold planC
  go_upto_region 8 with (first
    | (with_reducible refine wpList_store_mid (op := Oper.mk none (Op.store 29 (Operand.tmp 8) (Operand.tmp 33)) _ _ _ _) ?_ 29 (.tmp 8) (.tmp 33) ?_ w3.heap.size 0 #[.string q.name, .string q.cur, .int .i64 q.a.y, .int .i64 q.a.m, .int .i64 q.a.d, .int .i64 q.b.y, .int .i64 q.b.m, .int .i64 q.b.d, .slice maB q.meters.length mcB, .slice faB q.fees.length fcB, .slice caB q.charges.length ccB, .int .i64 q.line, .int .i64 q.col] ?_ ?_ ?_ ?_ ?_ ?_; rfl; rfl; go_simp; go_simp; (simpa using T2.out); kernel_rfl; (simp [Value.oneCell']))
    | (fail))
  rw [← HW2.out, ← HK2.out]
  clear z0 z1 z2 f0 f1 f2 lz T2
  have BB := hid (bel_on B3.out HB2.out)
  have KB := hid (K.out.later BB.out)
  have P2 := hid (P1.out.on HB2.out)
  clear B3 HB2 HW2 HK2 lB CQ P1
  go_wp2_with fail
  refine (CR.out wB KB.out).mono ?_
  rintro e w4 ⟨maC, mcC, faC, fcC, caC, ccC, rfl, lC, b4⟩
  have P3 := hid (P2.out.on b4)
  have Q3 := hid (HP2.out.on b4)
  have B4 := hid (bel_on BB.out b4)
  clear b4 HP2 KB BB P2
  have T3 := hid (there_pf w4 29 32)
  have F3 := flt_pf w4 29 32 [.string r.name, .string r.cur, .int .i64 r.a.y, .int .i64 r.a.m, .int .i64 r.a.d, .int .i64 r.b.y, .int .i64 r.b.m, .int .i64 r.b.d, .slice maC r.meters.length mcC, .slice faC r.fees.length fcC, .slice caC r.charges.length ccC, .int .i64 r.line, .int .i64 r.col]
  have z0 := F3.cell 0 _ rfl
  have z1 := F3.cell 1 _ rfl
  have z2 := F3.cell 2 _ rfl
  have f0 := F3.free 0
  have f1 := F3.free 1
  have f2 := F3.free 2
  have lz := F3.lt
  obtain ⟨PF, BF⟩ := pf_new (x := x2) (y := y2) (z := z2') lC 29 32
  obtain ⟨wC, hwC⟩ : ∃ W, W = (((((w4.alloc (.cells #[.string ⟨#[]⟩, .string ⟨#[]⟩, .int .i64 0, .int .i64 0, .int .i64 0, .int .i64 0, .int .i64 0, .int .i64 0, .slice none 0 0, .slice none 0 0, .slice none 0 0, .int .i64 0, .int .i64 0] 29)).alloc (.cells #[.int .i64 0, .int .i64 0, .int .i64 0] 32)).setCells w4.heap.size 0 [.string r.name, .string r.cur, .int .i64 r.a.y, .int .i64 r.a.m, .int .i64 r.a.d, .int .i64 r.b.y, .int .i64 r.b.m, .int .i64 r.b.d, .slice maC r.meters.length mcC, .slice faC r.fees.length fcC, .slice caC r.charges.length ccC, .int .i64 r.line, .int .i64 r.col]).setCell ⟨w4.heap.size + 1, 0, none⟩ (.int .i64 (x2))).setCell ⟨w4.heap.size + 1, 1, none⟩ (.int .i64 (y2))).setCell ⟨w4.heap.size + 1, 2, none⟩ (.int .i64 (z2')) := ⟨_, rfl⟩
  obtain ⟨k3, hk3⟩ : ∃ k, k = w4.heap.size := ⟨_, rfl⟩
  have HP3 : Hid (Pf wC k3 r maC mcC faC fcC caC ccC (x2) (y2) (z2')) := hid (by rw [hwC, hk3]; exact PF)
  have HB3 : Hid (Below w4.heap.size w4 wC) := hid (by rw [hwC]; exact BF)
  have HW3 := hid hwC
  have HK3 := hid hk3
  clear F3 PF BF hwC hk3
  unfold planC
  go_upto_region 9 with (first
    | (with_reducible refine wpList_store_mid (op := Oper.mk none (Op.store 29 (Operand.tmp 10) (Operand.tmp 41)) _ _ _ _) ?_ 29 (.tmp 10) (.tmp 41) ?_ w4.heap.size 0 #[.string r.name, .string r.cur, .int .i64 r.a.y, .int .i64 r.a.m, .int .i64 r.a.d, .int .i64 r.b.y, .int .i64 r.b.m, .int .i64 r.b.d, .slice maC r.meters.length mcC, .slice faC r.fees.length fcC, .slice caC r.charges.length ccC, .int .i64 r.line, .int .i64 r.col] ?_ ?_ ?_ ?_ ?_ ?_; rfl; rfl; go_simp; go_simp; (simpa using T3.out); kernel_rfl; (simp [Value.oneCell']))
    | (fail))
  rw [← HW3.out, ← HK3.out]
  clear z0 z1 z2 f0 f1 f2 lz T3
  have BC := hid (bel_on B4.out HB3.out)
  have P4 := P3.out.on HB3.out
  have Q4 := Q3.out.on HB3.out
  have R4 := HP3.out
  obtain ⟨rfl, ⟨rfl, rfl⟩, rfl, ⟨rfl, rfl⟩, rfl, ⟨rfl, rfl⟩⟩ := HZ.out
  have c0 := P4.flt.cell 0 _ rfl
  have c1 := P4.flt.cell 1 _ rfl
  have c2 := P4.flt.cell 2 _ rfl
  have d0 := Q4.flt.cell 0 _ rfl
  have d1 := Q4.flt.cell 1 _ rfl
  have d2 := Q4.flt.cell 2 _ rfl
  have HP4 := hid P4
  have HQ4 := hid Q4
  have HR4 := hid R4
  have RG : Hid (wC.rangeAt k1 0 [.string p.name, .string p.cur, .int .i64 p.a.y, .int .i64 p.a.m, .int .i64 p.a.d, .int .i64 p.b.y, .int .i64 p.b.m, .int .i64 p.b.d, .slice ma p.meters.length mc, .slice fa p.fees.length fc, .slice ca p.charges.length cc, .int .i64 p.line, .int .i64 p.col]) := hid (range_of P4.box.cell)
  clear P4 Q4 R4 B4 HB3 HW3 HK3 lC CR P3 Q3 HP3 K HZ
  obtain ⟨wD, hwD⟩ : ∃ W, W = wC.alloc (.cells #[.string p.name, .string p.cur, .int .i64 p.a.y, .int .i64 p.a.m, .int .i64 p.a.d, .int .i64 p.b.y, .int .i64 p.b.m, .int .i64 p.b.d, .slice ma p.meters.length mc, .slice fa p.fees.length fc, .slice ca p.charges.length cc, .int .i64 p.line, .int .i64 p.col] 29) := ⟨_, rfl⟩
  obtain ⟨kw, hkw⟩ : ∃ k, k = wC.heap.size := ⟨_, rfl⟩
  have bD : Below wC.heap.size wC wD := by rw [hwD]; exact bel_alloc _ _
  have XD : Hid (Bx wD kw [.string p.name, .string p.cur, .int .i64 p.a.y, .int .i64 p.a.m, .int .i64 p.a.d, .int .i64 p.b.y, .int .i64 p.b.m, .int .i64 p.b.d, .slice ma p.meters.length mc, .slice fa p.fees.length fc, .slice ca p.charges.length cc, .int .i64 p.line, .int .i64 p.col]) := hid (by rw [hwD, hkw]; exact Bx.new _ _ _)
  have hs1 : kw < wD.heap.size := by rw [hwD, hkw]; simp
  have HS1 := hid hs1
  have HBD := hid bD
  have HWD := hid hwD
  have HKW := hid hkw
  clear hwD hkw bD hs1
  go_upto_region 13 with fail
  clear c0 c1 c2 d0 d1 d2
  go_upto_region 14 with (first
    | (with_reducible refine wpList_load_mid (op := Oper.mk (some 54) (Op.load 29 (Operand.tmp 6)) _ _ _ _) ?_ 29 (.tmp 6) ?_ k1 0 ?_ [.string p.name, .string p.cur, .int .i64 p.a.y, .int .i64 p.a.m, .int .i64 p.a.d, .int .i64 p.b.y, .int .i64 p.b.m, .int .i64 p.b.d, .slice ma p.meters.length mc, .slice fa p.fees.length fc, .slice ca p.charges.length cc, .int .i64 p.line, .int .i64 p.col] _ RG.out Tryd.underlying29 ?_ ?_ ?_; rfl; rfl; go_simp; rfl; kernel_rfl)
    | (with_reducible refine wpList_store_new (op := Oper.mk none (Op.store 29 (Operand.tmp 12) (Operand.tmp 54)) _ _ _ _) ?_ 29 (.tmp 12) (.tmp 54) ?_ wC #[.string ⟨#[]⟩, .string ⟨#[]⟩, .int .i64 0, .int .i64 0, .int .i64 0, .int .i64 0, .int .i64 0, .int .i64 0, .slice none 0 0, .slice none 0 0, .slice none 0 0, .int .i64 0, .int .i64 0] #[.string p.name, .string p.cur, .int .i64 p.a.y, .int .i64 p.a.m, .int .i64 p.a.d, .int .i64 p.b.y, .int .i64 p.b.m, .int .i64 p.b.d, .slice ma p.meters.length mc, .slice fa p.fees.length fc, .slice ca p.charges.length cc, .int .i64 p.line, .int .i64 p.col] ?_ ?_ ?_ ?_ ?_ ?_; rfl; rfl; go_simp; go_simp; kernel_rfl; rfl; (simp [Value.oneCell']))
    | fail)
  rw [← HWD.out, ← HKW.out]
  have PD := hid (HP4.out.on HBD.out)
  have QD := hid (HQ4.out.on HBD.out)
  have HLK : Hid (k1 < kw ∧ k2 < kw) := hid (by rw [HKW.out]; exact ⟨HP4.out.box.lt, HQ4.out.box.lt⟩)
  clear HWD
  have HBW := HBD
  have HCNT : Hid (Cnt p q) := hid (cnt_of HIS.out)
  clear HBD
  obtain ⟨csM1, CM1, LM1, NM1, _, AM1⟩ := row_chunks HP4.out.lies.meters
  obtain ⟨csM2, CM2, LM2, NM2, _, AM2⟩ := row_chunks HQ4.out.lies.meters
  have GM1 : Hid (∀ W, Below wC.heap.size wC W → ∀ ad, ma = some ad → ∀ j u, csM1.flatten[j]? = some u → W.cell? (ad.add j) = some u) := hid fun W bw ad e j u hj => (bw.cell (World.block_lt_of_cell? wC _ (AM1 ad e j u hj))).trans (AM1 ad e j u hj)
  have OM1 := hid (CM1.ones one_meter)
  have MM1 := hid LM1
  have ZM1 := hid NM1
  have DM1 := hid CM1
  clear LM1 NM1 AM1 CM1
  have GM2 : Hid (∀ W, Below wC.heap.size wC W → ∀ ad, maB = some ad → ∀ j u, csM2.flatten[j]? = some u → W.cell? (ad.add j) = some u) := hid fun W bw ad e j u hj => (bw.cell (World.block_lt_of_cell? wC _ (AM2 ad e j u hj))).trans (AM2 ad e j u hj)
  have OM2 := hid (CM2.ones one_meter)
  have MM2 := hid LM2
  have ZM2 := hid NM2
  have DM2 := hid CM2
  clear LM2 NM2 AM2 CM2
  have BB := hid (Below.drew (Below.refl wD.heap.size wD))
  have KS : Hid (∀ w', Gk wD kw w' → w'.cell? ⟨k1, 8, none⟩ = some (.slice ma p.meters.length mc) ∧ w'.cell? ⟨k2, 8, none⟩ = some (.slice maB q.meters.length mcB) ∧ Gk wD kw w') := hid fun w' g => ⟨g.cell (PD.out.box.cell 8 _ rfl) (Nat.ne_of_lt HLK.out.1), g.cell (QD.out.box.cell 8 _ rfl) (Nat.ne_of_lt HLK.out.2), g⟩
  have w8 : Hid (∀ w', Below wD.heap.size wD w' → w'.cell? ⟨kw, 8, none⟩ = some (.slice ma p.meters.length mc) ∧ w'.frozen? ⟨kw, 8, none⟩ = false) := hid fun w' bw => ⟨(XD.out.on bw).cell 8 _ rfl, (XD.out.on bw).free 8⟩
  go_region_held_law (fun w' => w'.cell? ⟨k1, 8, none⟩ = some (.slice ma p.meters.length mc) ∧ w'.cell? ⟨k2, 8, none⟩ = some (.slice maB q.meters.length mcB) ∧ Gk wD kw w')
    ((first | (refine KS.out _ ?_; exact Gk.of BB.out) | (refine KS.out _ ?_; exact Gk.of (BB.out.alloc (Nat.le_refl _) _)) | (refine KS.out _ ?_; exact Gk.set (Gk.of BB.out) _ _)))
    (first
      | (refine step_join 58 rfl rfl (.tmp 55) (.tmp 57) 25 73 _ 5 56 rfl Tryd.underlying25 info_meterJ rfl (by decide) _ 0 [] rfl (World.ownsRow_made (base := wD.heap.size) wD.drew #[] 0 (Nat.le_refl _) (Nat.zero_le _) rfl) ma p.meters.length mc csM1.flatten rfl MM1.out ZM1.out (GM1.out _ (bel_on HBW.out (BB.out.alloc (Nat.le_refl _) _))) OM1.out HCNT.out.m1 (by decide) _ (Nat.zero_add _) (by simp) ?_
         intro aM0 cM0 wa hown hgrow
         rw [List.nil_append] at hown
         replace BB := hid (bel_join (BB.out.alloc (Nat.le_refl _) _) hgrow (fun k hk => Nat.le_of_eq (Option.some.inj hk)))
         have OW := hid hown
         clear hown hgrow)
      | (refine step_join 61 rfl rfl (.tmp 58) (.tmp 60) 25 73 _ 5 56 rfl Tryd.underlying25 info_meterJ rfl (by decide) _ p.meters.length csM1.flatten rfl OW.out maB q.meters.length mcB csM2.flatten rfl MM2.out ZM2.out (GM2.out _ (bel_on HBW.out BB.out)) OM2.out HCNT.out.m2 (by decide) _ rfl BB.out.size ?_
         intro aM cM wb hown hgrow
         replace BB := hid (bel_join BB.out hgrow (fun k hk => (OW.out.lt k hk).1))
         replace OW := hid hown
         have w9 := (w8.out _ BB.out).1
         have w10 := (w8.out _ BB.out).2
         clear hown hgrow))
  obtain ⟨wE, hwE⟩ : ∃ W, W = wb.setCell ⟨kw, 8, none⟩ (.slice aM (p.meters.length + q.meters.length) cM) := ⟨_, rfl⟩
  have XN : Hid (Bx wE kw [.string p.name, .string p.cur, .int .i64 p.a.y, .int .i64 p.a.m, .int .i64 p.a.d, .int .i64 p.b.y, .int .i64 p.b.m, .int .i64 p.b.d, .slice aM (p.meters.length + q.meters.length) cM, .slice fa p.fees.length fc, .slice ca p.charges.length cc, .int .i64 p.line, .int .i64 p.col]) := hid (by rw [hwE]; exact (XD.out.on BB.out).set 8 _)
  have HBN : Hid (Below wC.heap.size wC wE) := hid (by rw [hwE]; exact (bel_on HBW.out BB.out).setCell (p := ⟨kw, 8, none⟩) (by show wC.heap.size ≤ kw; rw [HKW.out]; exact Nat.le_refl _) _)
  have hsn : wE.heap.size = wb.heap.size := by rw [hwE]; simp
  have HSN : Hid (kw < wE.heap.size) := hid (by rw [hsn]; exact Nat.lt_of_lt_of_le HS1.out BB.out.size)
  have RM : Hid (∃ base, kw < base ∧ wE.ownsRow base 73 5 (.slice aM (p.meters.length + q.meters.length) cM) (p.meters.length + q.meters.length) (csM1.flatten ++ csM2.flatten)) := hid ⟨_, HS1.out, by rw [hwE]; exact own_far OW.out HS1.out _ _⟩
  have HWE := hid hwE
  clear hwE hsn BB OW KS w8
  replace XD := XN
  replace HBW := HBN
  replace HS1 := HSN
  replace PD := hid (HP4.out.on HBW.out)
  replace QD := hid (HQ4.out.on HBW.out)
  clear XN HBN HSN
  go_upto_region 15 with fail
  rw [← HWE.out]
  clear HWE
  obtain ⟨csF1, CF1, LF1, NF1, _, AF1⟩ := row_chunks HP4.out.lies.fees
  obtain ⟨csF2, CF2, LF2, NF2, _, AF2⟩ := row_chunks HQ4.out.lies.fees
  have GF1 : Hid (∀ W, Below wC.heap.size wC W → ∀ ad, fa = some ad → ∀ j u, csF1.flatten[j]? = some u → W.cell? (ad.add j) = some u) := hid fun W bw ad e j u hj => (bw.cell (World.block_lt_of_cell? wC _ (AF1 ad e j u hj))).trans (AF1 ad e j u hj)
  have OF1 := hid (CF1.ones one_fee)
  have MF1 := hid LF1
  have ZF1 := hid NF1
  have DF1 := hid CF1
  clear LF1 NF1 AF1 CF1
  have GF2 : Hid (∀ W, Below wC.heap.size wC W → ∀ ad, faB = some ad → ∀ j u, csF2.flatten[j]? = some u → W.cell? (ad.add j) = some u) := hid fun W bw ad e j u hj => (bw.cell (World.block_lt_of_cell? wC _ (AF2 ad e j u hj))).trans (AF2 ad e j u hj)
  have OF2 := hid (CF2.ones one_fee)
  have MF2 := hid LF2
  have ZF2 := hid NF2
  have DF2 := hid CF2
  clear LF2 NF2 AF2 CF2
  have BB := hid (Below.drew (Below.refl wE.heap.size wE))
  have KS : Hid (∀ w', Gk wE kw w' → w'.cell? ⟨k1, 9, none⟩ = some (.slice fa p.fees.length fc) ∧ w'.cell? ⟨k2, 9, none⟩ = some (.slice faB q.fees.length fcB) ∧ Gk wE kw w') := hid fun w' g => ⟨g.cell (PD.out.box.cell 9 _ rfl) (Nat.ne_of_lt HLK.out.1), g.cell (QD.out.box.cell 9 _ rfl) (Nat.ne_of_lt HLK.out.2), g⟩
  have w8 : Hid (∀ w', Below wE.heap.size wE w' → w'.cell? ⟨kw, 9, none⟩ = some (.slice fa p.fees.length fc) ∧ w'.frozen? ⟨kw, 9, none⟩ = false) := hid fun w' bw => ⟨(XD.out.on bw).cell 9 _ rfl, (XD.out.on bw).free 9⟩
  go_region_held_law (fun w' => w'.cell? ⟨k1, 9, none⟩ = some (.slice fa p.fees.length fc) ∧ w'.cell? ⟨k2, 9, none⟩ = some (.slice faB q.fees.length fcB) ∧ Gk wE kw w')
    ((first | (refine KS.out _ ?_; exact Gk.of BB.out) | (refine KS.out _ ?_; exact Gk.of (BB.out.alloc (Nat.le_refl _) _)) | (refine KS.out _ ?_; exact Gk.set (Gk.of BB.out) _ _)))
    (first
      | (refine step_join 66 rfl rfl (.tmp 63) (.tmp 65) 26 47 _ 10 80 rfl Tryd.underlying26 info_feeJ rfl (by decide) _ 0 [] rfl (World.ownsRow_made (base := wE.heap.size) wE.drew #[] 0 (Nat.le_refl _) (Nat.zero_le _) rfl) fa p.fees.length fc csF1.flatten rfl MF1.out ZF1.out (GF1.out _ (bel_on HBW.out (BB.out.alloc (Nat.le_refl _) _))) OF1.out HCNT.out.f1 (by decide) _ (Nat.zero_add _) (by simp) ?_
         intro aF0 cF0 wa hown hgrow
         rw [List.nil_append] at hown
         replace BB := hid (bel_join (BB.out.alloc (Nat.le_refl _) _) hgrow (fun k hk => Nat.le_of_eq (Option.some.inj hk)))
         have OW := hid hown
         clear hown hgrow)
      | (refine step_join 69 rfl rfl (.tmp 66) (.tmp 68) 26 47 _ 10 80 rfl Tryd.underlying26 info_feeJ rfl (by decide) _ p.fees.length csF1.flatten rfl OW.out faB q.fees.length fcB csF2.flatten rfl MF2.out ZF2.out (GF2.out _ (bel_on HBW.out BB.out)) OF2.out HCNT.out.f2 (by decide) _ rfl BB.out.size ?_
         intro aF cF wb hown hgrow
         replace BB := hid (bel_join BB.out hgrow (fun k hk => (OW.out.lt k hk).1))
         replace OW := hid hown
         have w9 := (w8.out _ BB.out).1
         have w10 := (w8.out _ BB.out).2
         clear hown hgrow))
  obtain ⟨wF, hwF⟩ : ∃ W, W = wb.setCell ⟨kw, 9, none⟩ (.slice aF (p.fees.length + q.fees.length) cF) := ⟨_, rfl⟩
  have XN : Hid (Bx wF kw [.string p.name, .string p.cur, .int .i64 p.a.y, .int .i64 p.a.m, .int .i64 p.a.d, .int .i64 p.b.y, .int .i64 p.b.m, .int .i64 p.b.d, .slice aM (p.meters.length + q.meters.length) cM, .slice aF (p.fees.length + q.fees.length) cF, .slice ca p.charges.length cc, .int .i64 p.line, .int .i64 p.col]) := hid (by rw [hwF]; exact (XD.out.on BB.out).set 9 _)
  have HBN : Hid (Below wC.heap.size wC wF) := hid (by rw [hwF]; exact (bel_on HBW.out BB.out).setCell (p := ⟨kw, 9, none⟩) (by show wC.heap.size ≤ kw; rw [HKW.out]; exact Nat.le_refl _) _)
  have hsn : wF.heap.size = wb.heap.size := by rw [hwF]; simp
  have HSN : Hid (kw < wF.heap.size) := hid (by rw [hsn]; exact Nat.lt_of_lt_of_le HS1.out BB.out.size)
  have RF : Hid (∃ base, kw < base ∧ wF.ownsRow base 47 10 (.slice aF (p.fees.length + q.fees.length) cF) (p.fees.length + q.fees.length) (csF1.flatten ++ csF2.flatten)) := hid ⟨_, HS1.out, by rw [hwF]; exact own_far OW.out HS1.out _ _⟩
  replace RM : Hid (∃ base, kw < base ∧ wF.ownsRow base 73 5 (.slice aM (p.meters.length + q.meters.length) cM) (p.meters.length + q.meters.length) (csM1.flatten ++ csM2.flatten)) := hid (by obtain ⟨base, k1, k2⟩ := RM.out; exact ⟨base, k1, by rw [hwF]; exact own_far (owns_on k2 BB.out) k1 _ _⟩)
  have HWE := hid hwF
  clear hwF hsn BB OW KS w8
  replace XD := XN
  replace HBW := HBN
  replace HS1 := HSN
  replace PD := hid (HP4.out.on HBW.out)
  replace QD := hid (HQ4.out.on HBW.out)
  clear XN HBN HSN
  go_upto_region 16 with fail
  rw [← HWE.out]
  clear HWE
  obtain ⟨csC1, CC1, LC1, NC1, _, AC1⟩ := row_chunks HP4.out.lies.charges
  obtain ⟨csC2, CC2, LC2, NC2, _, AC2⟩ := row_chunks HQ4.out.lies.charges
  have GC1 : Hid (∀ W, Below wC.heap.size wC W → ∀ ad, ca = some ad → ∀ j u, csC1.flatten[j]? = some u → W.cell? (ad.add j) = some u) := hid fun W bw ad e j u hj => (bw.cell (World.block_lt_of_cell? wC _ (AC1 ad e j u hj))).trans (AC1 ad e j u hj)
  have OC1 := hid (CC1.ones one_charge)
  have MC1 := hid LC1
  have ZC1 := hid NC1
  have DC1 := hid CC1
  clear LC1 NC1 AC1 CC1
  have GC2 : Hid (∀ W, Below wC.heap.size wC W → ∀ ad, caB = some ad → ∀ j u, csC2.flatten[j]? = some u → W.cell? (ad.add j) = some u) := hid fun W bw ad e j u hj => (bw.cell (World.block_lt_of_cell? wC _ (AC2 ad e j u hj))).trans (AC2 ad e j u hj)
  have OC2 := hid (CC2.ones one_charge)
  have MC2 := hid LC2
  have ZC2 := hid NC2
  have DC2 := hid CC2
  clear LC2 NC2 AC2 CC2
  have BB := hid (Below.drew (Below.refl wF.heap.size wF))
  have KS : Hid (∀ w', Gk wF kw w' → w'.cell? ⟨k1, 10, none⟩ = some (.slice ca p.charges.length cc) ∧ w'.cell? ⟨k2, 10, none⟩ = some (.slice caB q.charges.length ccB) ∧ Gk wF kw w') := hid fun w' g => ⟨g.cell (PD.out.box.cell 10 _ rfl) (Nat.ne_of_lt HLK.out.1), g.cell (QD.out.box.cell 10 _ rfl) (Nat.ne_of_lt HLK.out.2), g⟩
  have w8 : Hid (∀ w', Below wF.heap.size wF w' → w'.cell? ⟨kw, 10, none⟩ = some (.slice ca p.charges.length cc) ∧ w'.frozen? ⟨kw, 10, none⟩ = false) := hid fun w' bw => ⟨(XD.out.on bw).cell 10 _ rfl, (XD.out.on bw).free 10⟩
  go_region_held_law (fun w' => w'.cell? ⟨k1, 10, none⟩ = some (.slice ca p.charges.length cc) ∧ w'.cell? ⟨k2, 10, none⟩ = some (.slice caB q.charges.length ccB) ∧ Gk wF kw w')
    ((first | (refine KS.out _ ?_; exact Gk.of BB.out) | (refine KS.out _ ?_; exact Gk.of (BB.out.alloc (Nat.le_refl _) _)) | (refine KS.out _ ?_; exact Gk.set (Gk.of BB.out) _ _)))
    (first
      | (refine step_join 74 rfl rfl (.tmp 71) (.tmp 73) 27 77 _ 16 168 rfl Tryd.underlying27 info_chargeJ rfl (by decide) _ 0 [] rfl (World.ownsRow_made (base := wF.heap.size) wF.drew #[] 0 (Nat.le_refl _) (Nat.zero_le _) rfl) ca p.charges.length cc csC1.flatten rfl MC1.out ZC1.out (GC1.out _ (bel_on HBW.out (BB.out.alloc (Nat.le_refl _) _))) OC1.out HCNT.out.c1 (by decide) _ (Nat.zero_add _) (by simp) ?_
         intro aC0 cC0 wa hown hgrow
         rw [List.nil_append] at hown
         replace BB := hid (bel_join (BB.out.alloc (Nat.le_refl _) _) hgrow (fun k hk => Nat.le_of_eq (Option.some.inj hk)))
         have OW := hid hown
         clear hown hgrow)
      | (refine step_join 77 rfl rfl (.tmp 74) (.tmp 76) 27 77 _ 16 168 rfl Tryd.underlying27 info_chargeJ rfl (by decide) _ p.charges.length csC1.flatten rfl OW.out caB q.charges.length ccB csC2.flatten rfl MC2.out ZC2.out (GC2.out _ (bel_on HBW.out BB.out)) OC2.out HCNT.out.c2 (by decide) _ rfl BB.out.size ?_
         intro aC cC wb hown hgrow
         replace BB := hid (bel_join BB.out hgrow (fun k hk => (OW.out.lt k hk).1))
         replace OW := hid hown
         have w9 := (w8.out _ BB.out).1
         have w10 := (w8.out _ BB.out).2
         clear hown hgrow))
  obtain ⟨wG, hwG⟩ : ∃ W, W = wb.setCell ⟨kw, 10, none⟩ (.slice aC (p.charges.length + q.charges.length) cC) := ⟨_, rfl⟩
  have XN : Hid (Bx wG kw [.string p.name, .string p.cur, .int .i64 p.a.y, .int .i64 p.a.m, .int .i64 p.a.d, .int .i64 p.b.y, .int .i64 p.b.m, .int .i64 p.b.d, .slice aM (p.meters.length + q.meters.length) cM, .slice aF (p.fees.length + q.fees.length) cF, .slice aC (p.charges.length + q.charges.length) cC, .int .i64 p.line, .int .i64 p.col]) := hid (by rw [hwG]; exact (XD.out.on BB.out).set 10 _)
  have HBN : Hid (Below wC.heap.size wC wG) := hid (by rw [hwG]; exact (bel_on HBW.out BB.out).setCell (p := ⟨kw, 10, none⟩) (by show wC.heap.size ≤ kw; rw [HKW.out]; exact Nat.le_refl _) _)
  have hsn : wG.heap.size = wb.heap.size := by rw [hwG]; simp
  have HSN : Hid (kw < wG.heap.size) := hid (by rw [hsn]; exact Nat.lt_of_lt_of_le HS1.out BB.out.size)
  have RC : Hid (∃ base, kw < base ∧ wG.ownsRow base 77 16 (.slice aC (p.charges.length + q.charges.length) cC) (p.charges.length + q.charges.length) (csC1.flatten ++ csC2.flatten)) := hid ⟨_, HS1.out, by rw [hwG]; exact own_far OW.out HS1.out _ _⟩
  replace RM : Hid (∃ base, kw < base ∧ wG.ownsRow base 73 5 (.slice aM (p.meters.length + q.meters.length) cM) (p.meters.length + q.meters.length) (csM1.flatten ++ csM2.flatten)) := hid (by obtain ⟨base, k1, k2⟩ := RM.out; exact ⟨base, k1, by rw [hwG]; exact own_far (owns_on k2 BB.out) k1 _ _⟩)
  replace RF : Hid (∃ base, kw < base ∧ wG.ownsRow base 47 10 (.slice aF (p.fees.length + q.fees.length) cF) (p.fees.length + q.fees.length) (csF1.flatten ++ csF2.flatten)) := hid (by obtain ⟨base, k1, k2⟩ := RF.out; exact ⟨base, k1, by rw [hwG]; exact own_far (owns_on k2 BB.out) k1 _ _⟩)
  have HWE := hid hwG
  clear hwG hsn BB OW KS w8
  replace XD := XN
  replace HBW := HBN
  replace HS1 := HSN
  replace PD := hid (HP4.out.on HBW.out)
  replace QD := hid (HQ4.out.on HBW.out)
  clear XN HBN HSN
  have PW : Hid (PlanLies wG (planC (withOf p q) aM cM aF cF aC cC) (withOf p q) aM cM aF cF aC cC) := hid (by
    obtain ⟨_, _, m⟩ := RM.out
    obtain ⟨_, _, f⟩ := RF.out
    obtain ⟨_, _, c⟩ := RC.out
    rw [← List.flatten_append] at m f c
    exact with_lies PD.out.lies (own_row (T := tMeter) m List.length_append.symm ((DM1.out.app DM2.out).on HBW.out)) (own_row (T := tFee) f List.length_append.symm ((DF1.out.app DF2.out).on HBW.out)) (own_row (T := tCharge) c List.length_append.symm ((DC1.out.app DC2.out).on HBW.out)))
  have RD := hid (HR4.out.on HBW.out)
  have SPQ : Hid (Calls Tryd.prog 8 #[.agg #[.string r.name, .string r.cur, .int .i64 r.a.y, .int .i64 r.a.m, .int .i64 r.a.d, .int .i64 r.b.y, .int .i64 r.b.m, .int .i64 r.b.d, .slice maC r.meters.length mcC, .slice faC r.fees.length fcC, .slice caC r.charges.length ccC, .int .i64 r.line, .int .i64 r.col], .agg #[.string p.name, .string p.cur, .int .i64 p.a.y, .int .i64 p.a.m, .int .i64 p.a.d, .int .i64 p.b.y, .int .i64 p.b.m, .int .i64 p.b.d, .slice aM (p.meters.length + q.meters.length) cM, .slice aF (p.fees.length + q.fees.length) cF, .slice aC (p.charges.length + q.charges.length) cC, .int .i64 p.line, .int .i64 p.col]] wG fun e w' => e = .returned (.bool true) ∧ Below wG.heap.size wG w') := hid (by
    have h := same_any r (withOf p q) maC mcC faC fcC caC ccC aM cM aF cF aC cC wG RD.out.lies PW.out HSR.out HIS.out
    rw [decide_eq_true HIR.out] at h
    unfold planC withOf at h
    simp only [List.length_append] at h
    exact h)
  have RR : Hid (wG.rangeAt k3 0 [.string r.name, .string r.cur, .int .i64 r.a.y, .int .i64 r.a.m, .int .i64 r.a.d, .int .i64 r.b.y, .int .i64 r.b.m, .int .i64 r.b.d, .slice maC r.meters.length mcC, .slice faC r.fees.length fcC, .slice caC r.charges.length ccC, .int .i64 r.line, .int .i64 r.col]) := hid (range_of RD.out.box.cell)
  have RX : Hid (wG.rangeAt kw 0 [.string p.name, .string p.cur, .int .i64 p.a.y, .int .i64 p.a.m, .int .i64 p.a.d, .int .i64 p.b.y, .int .i64 p.b.m, .int .i64 p.b.d, .slice aM (p.meters.length + q.meters.length) cM, .slice aF (p.fees.length + q.fees.length) cF, .slice aC (p.charges.length + q.charges.length) cC, .int .i64 p.line, .int .i64 p.col]) := hid (range_of XD.out.cell)
  have e0 := RD.out.flt.cell 0 _ rfl
  have e1 := RD.out.flt.cell 1 _ rfl
  have e2 := RD.out.flt.cell 2 _ rfl
  have BF := hid (bel_on BC.out HBW.out)
  go_upto_region 17 with fail
  rw [← HWE.out]
  clear HWE RM RF RC PW PD QD XD HBW HP4 HQ4 HR4 HIS HSR HIR RD
  go_wp2_with (first
    | (with_reducible refine wpList_load_midg (op := Oper.mk (some 83) (Op.load 29 (Operand.tmp 10)) _ _ _ _) ?_ 29 (.tmp 10) ?_ k3 0 ?_ [.string r.name, .string r.cur, .int .i64 r.a.y, .int .i64 r.a.m, .int .i64 r.a.d, .int .i64 r.b.y, .int .i64 r.b.m, .int .i64 r.b.d, .slice maC r.meters.length mcC, .slice faC r.fees.length fcC, .slice caC r.charges.length ccC, .int .i64 r.line, .int .i64 r.col] _ RR.out Tryd.underlying29 ?_ ?_ ?_; (first | rfl | kernel_rfl | go_simp | (simp [Region.wanted, yielded])); rfl; go_simp; rfl; kernel_rfl)
    | (with_reducible refine wpList_load_midg (op := Oper.mk (some 84) (Op.load 29 (Operand.tmp 12)) _ _ _ _) ?_ 29 (.tmp 12) ?_ kw 0 ?_ [.string p.name, .string p.cur, .int .i64 p.a.y, .int .i64 p.a.m, .int .i64 p.a.d, .int .i64 p.b.y, .int .i64 p.b.m, .int .i64 p.b.d, .slice aM (p.meters.length + q.meters.length) cM, .slice aF (p.fees.length + q.fees.length) cF, .slice aC (p.charges.length + q.charges.length) cC, .int .i64 p.line, .int .i64 p.col] _ RX.out Tryd.underlying29 ?_ ?_ ?_; (first | rfl | kernel_rfl | go_simp | (simp [Region.wanted, yielded])); rfl; go_simp; rfl; kernel_rfl)
    | (go_at_call 8; refine SPQ.out.mono ?_; rintro e wz ⟨rfl, bz⟩; replace BF := hid (bel_on BF.out bz); clear bz))
  go_ret
  exact ⟨rfl, BF.out⟩
/-- ParseItems, of every two texts. -/
theorem items_walk (a b : ByteArray) (w : World) (k : Ky w) : Calls Tryd.prog 3 #[.string a, .string b] w fun e w' => e = .returned (.bool true) ∧ Below w.heap.size w w' := by
  by_cases h1 : 4096 < a.size ∨ 2048 < b.size
  · exact items_long a b w k h1
  · by_cases h2 : (parsed a.data.toList).2.1 = 0 ∧ (parsed (headT ++ 10 :: b.data.toList)).2.1 = 0
    · exact items_good a b w k (by omega) (by omega) h2.1 h2.2
    · exact items_bad a b w k (by omega) (by omega) h2
end Go.Proofs.YtinadkgfhoibkaaDoor.L07
/- What the listed tables, and the world's shape, give the walks of layer 7: the modes' words, the powers of ten, and some number MaxLen. -/
namespace Go.Proofs.YtinadkgfhoibkaaDoor.Ld
open Go.RowKit

theorem own : ownKnob Tryd.prog.godebug = none := by kernel_rfl
theorem of_head {W : World} {rest : List (String × DataW Unit)} (h : laidMet Tryd.prog (("internal/strconv.uint64pow10", Lib.tabData .u64 Lib.pow10Tab) :: rest) W) : Dc.Tab W :=
  Lib.tabIs_of_head (g := 0) (t := 118) (e := 94) (n := 20) (by kernel_rfl) (by kernel_rfl) (by kernel_rfl) (by kernel_rfl) (by kernel_rfl) (by kernel_rfl) h
/-- An array of texts that reads as these letters holds these texts, cell for cell. -/
theorem cells_of_strs {H : Type} {enc : TypeId × Value → H} {P : Program} {w : World} {base : Nat} {sp : Nat → Bool} {held : Bool} {fuel : Nat} {t e : TypeId} {n : Nat} {cs : List Value} {zs : List (List UInt8)} {p : List MemPlace}
    (ht : P.underlying t = some (.array n e)) (he : P.underlying e = some .string) (hce : P.cellsOf e = 1) (hct : P.cellsOf t = n)
    (h : DataW.trod enc P w base sp held fuel t cs = some (.agg (zs.map fun z => .lit (.string z)), p)) : cs = zs.map fun z => Value.string ⟨z.toArray⟩ := by
  cases fuel with
  | zero => simp [DataW.trod] at h
  | succ fuel =>
    simp only [DataW.trod, ht, hce, hct, Nat.mul_one] at h
    split at h
    · rename_i hl
      obtain ⟨xs, hm, hx⟩ := Option.map_eq_some_iff.1 h
      have hxs : xs.map (·.1) = zs.map fun z => (DataW.lit (.string z) : DataW H) := by
        have := congrArg Prod.fst hx
        simpa using this
      have hxl : xs.length = n := by simpa using Lib.mapM_length hm
      have hzl : zs.length = n := by
        have := congrArg List.length hxs
        simp at this
        omega
      apply List.ext_getElem?
      intro i
      by_cases hi : i < n
      · obtain ⟨b, hb, hf⟩ := Lib.mapM_at hm i i (by simp [hi])
        obtain ⟨z, hc, rfl, _⟩ := DataW.trod_string he hf
        have h1 : cs[i]? = some (.string z) := by
          have := congrArg (·[0]?) hc
          simpa [List.getElem?_take, List.getElem?_drop] using this
        have h2 : (xs.map (·.1))[i]? = some (DataW.lit (.string z.data.toList) : DataW H) := by simp [hb]
        rw [hxs] at h2
        simp only [List.getElem?_map, Option.map_eq_some_iff, DataW.lit.injEq, Lit.string.injEq] at h2
        obtain ⟨z', hz', hzz⟩ := h2
        subst hzz
        simp [h1, hz']
      · rw [List.getElem?_eq_none (by omega), List.getElem?_eq_none (by simp; omega)]
    · cases h
theorem md_of {W : World} {rest : List (String × DataW Unit)} (h : laidMet Tryd.prog (("poundage/parse.modes", .agg (P.modes.map fun z => .lit (.string z))) :: rest) W) : Pa.Md W := by
  obtain ⟨ps, ⟨g', t', cs, fuel, p, q, hg', ht', hvar, hd, _, _⟩, _⟩ := h
  have hg : Tryd.prog.globalNamed "poundage/parse.modes" = some 1 := by kernel_rfl
  obtain rfl := Option.some.inj (hg.symm.trans hg')
  obtain rfl := Option.some.inj ((show (Tryd.prog.globals[1]?).map (·.type) = some 123 by kernel_rfl).symm.trans ht')
  have hca : cs = (P.modes.map fun z => Value.string ⟨z.toArray⟩).toArray := by rw [← cells_of_strs (e := 9) (n := 4) (by kernel_rfl) (by kernel_rfl) (by kernel_rfl) (by kernel_rfl) hd]
  rw [hca] at hvar
  intro j l hj
  have := World.var?_cell hg hvar j
  rw [this]
  simp [hj]
theorem ky_of {W : World} {a : String × DataW Unit} (ha : a = ("poundage/parse.modes", .agg (P.modes.map fun z => .lit (.string z)))) (hp : ([a].all fun x => x.2.handleName?.isNone) = true)
    (h : laidMetH Tryd.prog [a] W) (hs : W.ShapedOpen Tryd.prog) : Pa.Ky W := by
  rw [MakeChecks.laidMetH_plain _ _ _ hp] at h
  subst ha
  exact ⟨Dc.mx_of hs, md_of h⟩
theorem kt_of {W : World} {a b c d : String × DataW Unit} (hc : c = ("internal/strconv.uint64pow10", Lib.tabData .u64 Lib.pow10Tab)) (hd : d = ("poundage/parse.modes", .agg (P.modes.map fun z => .lit (.string z)))) (hp : ([a, b, c, d].all fun x => x.2.handleName?.isNone) = true)
    (h : laidMetH Tryd.prog [a, b, c, d] W) (hs : W.ShapedOpen Tryd.prog) : Pa.Ky W ∧ Dc.Tab W := by
  rw [MakeChecks.laidMetH_plain _ _ _ hp] at h
  subst hc hd
  exact ⟨⟨Dc.mx_of hs, md_of h.tail.tail.tail⟩, of_head h.tail.tail⟩
set_option maxRecDepth 100000 in
/-- The wrap of a row that lists variables, with the world's shape kept for the contract. -/
theorem returns {H : Type} {enc : TypeId × Value → H} {os : Os} {f : FuncId} {fn : Func} {s : ChangeSpec} {conds : List PathCond} {apart fresh handsOn again : Bool} {X : World → Array Value → Prop}
    (hX : ∀ (w w' : World) (args : Array Value), w.heap = w'.heap → X w args → X w' args)
    (started : os.Started) (noInit : Tryd.checked.prog.inits.idxOf? f = none) (hfn : Tryd.checked.prog.funcs[f]? = some fn)
    (witness : ∃ (w : World) (tape : Tape) (i : Input), w.os = os ∧ (w.forCall tape i).Shaped Tryd.checked.prog ∧ i.vars = [] ∧ Input.okWide Tryd.checked.prog (w.forCall tape i) .any w.heap.size f i ∧
      ((s.pre enc Tryd.checked.prog fn conds apart (w.forCall tape i).memory i.args ∧ X (w.forCall tape i).memory i.args) ∧ sizedMet enc Tryd.checked.prog fn (OpenSpec.ofChange s) apart (w.forCall tape i).memory i.args) ∧ ({} : Assume).holds Tryd.checked.prog (lone (Frame.enter Tryd.checked.prog f i.args .normal) [] (w.forCall tape i)))
    (contract : ∀ (W : World) (base : Nat) (args : Array Value) (ds gs : List (DataW H)) (before : List MemPlace),
      (∀ (j : Nat) t v, fn.params[j]? = some t → args[j]? = some v → Value.okWide Tryd.checked.prog W .any base t v) →
      DataW.Whole enc Tryd.checked.prog fn.params.toList s.vars apart W args.toList ds gs before →
      (DataW.weightsEach Tryd.checked.prog (fn.params.toList ++ s.plain.varTypes Tryd.checked.prog) (ds ++ gs)).all (· ≤ reachBytes) = true → X W args → W.ShapedOpen Tryd.checked.prog →
      Calls Tryd.checked.prog f args W fun e W' => ∃ v, e = .returned v ∧ s.post enc Tryd.checked.prog fn apart fresh handsOn again W args v W') :
    ReturnsInHanded {} Tryd.checked os f .any (fun w args => (s.pre enc Tryd.checked.prog fn conds apart w args ∧ X w args) ∧ sizedMet enc Tryd.checked.prog fn (OpenSpec.ofChange s) apart w args) (s.post enc Tryd.checked.prog fn apart fresh handsOn again) := by
  refine returnsInHanded_of_calls own started noInit witness ?_
  intro w tape i _ hsh _ hok hpre _
  obtain ⟨_, _, _, fn', hfn', _, _, _, _, hval⟩ := hok
  obtain rfl : fn' = fn := Option.some.inj (hfn'.symm.trans hfn)
  obtain ⟨⟨⟨ds, gs, before, hw, _⟩, hx⟩, hz⟩ := hpre
  have hw' := DataW.Whole.of_heap (w' := w.forCall tape i) (by rfl) hw
  refine (contract (w.forCall tape i) w.heap.size i.args ds gs before hval hw' (hz.weights hw) (hX _ _ _ (by rfl) hx) hsh).mono fun e W' ⟨v, he, hp⟩ => ?_
  subst he
  exact ChangeSpec.post_blind hp
end Go.Proofs.YtinadkgfhoibkaaDoor.Ld

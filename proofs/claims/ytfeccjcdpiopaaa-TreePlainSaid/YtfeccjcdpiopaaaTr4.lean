/- Package tree, walked: rows of charges held against each other. -/
import Derived.Test.YtfeccjcdpiopaaaTr3
import Derived.Deep.MidRow
import Derived.Deep.WholeRow
import Derived.Deep.CutBlock
import Derived.Deep.CutRange
import Derived.Deep.DeepCutAuto
namespace Go.Proofs.Ytfeccjcdpiopaaa.Te
open Go.RowKit Go.Sort P Mm R6 Tl

theorem lies_on {w w' : World} {cs : List Value} {c : Charge} {ta : Option Addr} {tc : Nat} {aa : Option Addr} {ac : Nat} (h : ChargeLies w cs c ta tc aa ac) (hb : Below w.heap.size w w') : ChargeLies w' cs c ta tc aa ac :=
  ⟨h.cells, h.tiers.on hb, h.adjusts.on hb, h.meter, h.win, h.nums⟩
/-- A struct goes into the block that was made last. -/
theorem wpList_store_new {P : Program} {ops : Array Oper} {rest : List Oper} {op : Oper} {a : Act} {Q : Exit → Act → World → Prop} (hgd : op.guard = none) (ty : TypeId) (x y : Operand) (ho : op.op = .store ty x y)
    (W : World) (z cs : Array Value) (hx : a.eval x = .pointer (some ⟨W.heap.size, 0, none⟩)) (hy : a.eval y = .agg cs) (hi : (P.info? ty).map (·.size) = some cs.size) (hz : z.size = cs.size) (h1 : cs.all (·.oneCell') = true)
    (h : wpList P ops Q rest (a.put op.dst undef) (W.alloc (.cells cs ty))) : wpList P ops Q (op :: rest) a (W.alloc (.cells z ty)) :=
  wpList_plain hgd fun K hK => by
    have := hK _ _ h
    unfold Oper.wp execOp
    simp only [ho, hx, hy, Sem.run_bind, run_storeAt_new W ty z cs hi hz h1, Result.andThen_ok]
    exact this
theorem range_new (W : World) (cs : List Value) (t : TypeId) : (W.alloc (.cells cs.toArray t)).rangeAt W.heap.size 0 cs := fun j v h => by
  rw [Nat.zero_add]
  exact cell1 h
theorem range_box {W : World} {b o : Nat} {x : Charge} {ta : Option Addr} {tc : Nat} {aa : Option Addr} {ac : Nat} (h : ChargeAt W b o x ta tc aa ac) : W.rangeAt b o (chargeC x ta tc aa ac) := by
  obtain ⟨_, a0, a1, a2, a3, a4, a5, a6, a7, a8, a9, a10, a11, a12, a13, a14, a15⟩ := h
  intro j v hj
  match j, hj with
  | 0, hj => cases hj; exact a0
  | 1, hj => cases hj; exact a1
  | 2, hj => cases hj; exact a2
  | 3, hj => cases hj; exact a3
  | 4, hj => cases hj; exact a4
  | 5, hj => cases hj; exact a5
  | 6, hj => cases hj; exact a6
  | 7, hj => cases hj; exact a7
  | 8, hj => cases hj; exact a8
  | 9, hj => cases hj; exact a9
  | 10, hj => cases hj; exact a10
  | 11, hj => cases hj; exact a11
  | 12, hj => cases hj; exact a12
  | 13, hj => cases hj; exact a13
  | 14, hj => cases hj; exact a14
  | 15, hj => cases hj; exact a15
  | j + 16, hj => cases hj
set_option maxHeartbeats 4000000 in
set_option maxRecDepth 100000 in
theorem eqfC_any (xs ys : List Charge) (ma : Option Addr) (mc : Nat) (fa : Option Addr) (fc : Nat) (w : World) (hx : Row tCharge w ma xs.length mc xs) (hy : Row tCharge w fa ys.length fc ys) :
    Calls Try.prog 45 #[.slice ma xs.length mc, .slice fa ys.length fc, .func (.func 33) #[] #[]] w fun e w' => e = .returned (.bool (eqL sameC xs ys)) ∧ Below w.heap.size w w' := by
  obtain ⟨n, hn⟩ : ∃ n, n = xs.length := ⟨_, rfl⟩
  obtain ⟨m, hm⟩ : ∃ m, m = ys.length := ⟨_, rfl⟩
  have u1 := hx.hcap
  have u2 := hx.hmax
  have u3 := hy.hcap
  have u4 := hy.hmax
  obtain ⟨R, hR⟩ : ∃ R, R = eqL sameC xs ys := ⟨_, rfl⟩
  rw [← hR]
  have HR := hid hR
  rw [← hn] at hx u1 ⊢
  rw [← hm] at hy u3 ⊢
  have HX := hid hx
  have HY := hid hy
  have HN := hid hn
  have HM := hid hm
  clear hR hx hy hn hm
  go_enter Try.func45, Try.ntmps45
  by_cases hl : (n : Int) = (m : Int)
  · obtain rfl : n = m := by omega
    clear hl
    go_wp2
    go_loopw [17] (fun i wr => ∃ i' : Int, i = .int .i64 i' ∧ 0 ≤ i' ∧ i' ≤ n ∧ Hid (R = eqL sameC (xs.drop i'.toNat) (ys.drop i'.toNat)) ∧ Hid (Below w.heap.size w wr)) (fun i _ => ((n : Int) - intOf i).toNat)
    case atStart => exact ⟨0, rfl, by omega, by omega, hid HR.out, hid (Below.refl _ _)⟩
    case round =>
      obtain ⟨i', rfl, i0, i1, hh, hb⟩ := hrel
      by_cases hlt : i' < n
      · obtain ⟨x, tx⟩ : ∃ x, xs[i'.toNat]? = some x := ⟨_, List.getElem?_eq_getElem (by have := HN.out; omega)⟩
        obtain ⟨y, ty⟩ : ∃ y, ys[i'.toNat]? = some y := ⟨_, List.getElem?_eq_getElem (by have := HM.out; omega)⟩
        have K : Hid (R = (sameC x y && eqL sameC (xs.drop (i' + 1).toNat) (ys.drop (i' + 1).toNat))) := hid (by rw [hh.out, eqL_drop tx ty, show (i' + 1).toNat = i'.toNat + 1 by omega])
        obtain ⟨bx, ox, ta, tc, aa, ac, e, ax, lx⟩ := charge_at (HX.out.on hb.out) tx
        obtain ⟨by', oy, ta', tc', aa', ac', e', ay, ly⟩ := charge_at (HY.out.on hb.out) ty
        subst e
        subst e'
        have cS := fun W (h : Below wr.heap.size wr W) => sameC_any x y ta tc aa ac ta' tc' aa' ac' W (lies_on lx h) (lies_on ly h)
        have r1 := hid (range_box ax)
        have r2 := hid (World.rangeAt_alloc (range_box ay) (.cells (chargeC x ta tc aa ac).toArray 46))
        have r3 := hid (World.rangeAt_alloc (range_new wr (chargeC x ta tc aa ac) 46) (.cells (chargeC y ta' tc' aa' ac').toArray 46))
        have r4 := hid (range_new (wr.alloc (.cells (chargeC x ta tc aa ac).toArray 46)) (chargeC y ta' tc' aa' ac') 46)
        have sz : (wr.alloc (.cells (chargeC x ta tc aa ac).toArray 46)).heap.size = wr.heap.size + 1 := by simp
        rw [sz] at r4
        have BW := hid (bel_alloc2 wr (.cells (chargeC x ta tc aa ac).toArray 46) (.cells (chargeC y ta' tc' aa' ac').toArray 46))
        have SZ := hid sz
        clear ax ay sz
        unfold chargeC at r1 r2 r3 r4 BW SZ
        unfold chargeC at cS
        clear tx ty hh
        go_wp2_with (first
          | (with_reducible refine wpList_load_mid (op := Oper.mk (some 21) (Op.load 46 (Operand.tmp 20)) _ _ _ _) ?_ 46 (.tmp 20) ?_ bx (ox + i'.toNat * 16) ?_ [.string x.meter, .bool x.win.has, .int .i64 x.win.a.y, .int .i64 x.win.a.m, .int .i64 x.win.a.d, .int .i64 x.win.b.y, .int .i64 x.win.b.m, .int .i64 x.win.b.d, .int .i64 x.allowance, .int .i64 x.block, .int .i64 x.kind, .slice ta x.tiers.length tc, .int .i64 x.mode, .slice aa x.adjusts.length ac, .int .i64 x.line, .int .i64 x.col] _ r1.out Try.underlying46 ?_ ?_ ?_; rfl; rfl; go_simp; rfl; kernel_rfl)
          | (with_reducible refine wpList_load_mid (op := Oper.mk (some 25) (Op.load 46 (Operand.tmp 24)) _ _ _ _) ?_ 46 (.tmp 24) ?_ by' (oy + i'.toNat * 16) ?_ [.string y.meter, .bool y.win.has, .int .i64 y.win.a.y, .int .i64 y.win.a.m, .int .i64 y.win.a.d, .int .i64 y.win.b.y, .int .i64 y.win.b.m, .int .i64 y.win.b.d, .int .i64 y.allowance, .int .i64 y.block, .int .i64 y.kind, .slice ta' y.tiers.length tc', .int .i64 y.mode, .slice aa' y.adjusts.length ac', .int .i64 y.line, .int .i64 y.col] _ r2.out Try.underlying46 ?_ ?_ ?_; rfl; rfl; go_simp; rfl; kernel_rfl)
          | (with_reducible refine wpList_load_mid (op := Oper.mk (some 27) (Op.load 46 (Operand.tmp 8)) _ _ _ _) ?_ 46 (.tmp 8) ?_ wr.heap.size (0) ?_ [.string x.meter, .bool x.win.has, .int .i64 x.win.a.y, .int .i64 x.win.a.m, .int .i64 x.win.a.d, .int .i64 x.win.b.y, .int .i64 x.win.b.m, .int .i64 x.win.b.d, .int .i64 x.allowance, .int .i64 x.block, .int .i64 x.kind, .slice ta x.tiers.length tc, .int .i64 x.mode, .slice aa x.adjusts.length ac, .int .i64 x.line, .int .i64 x.col] _ r3.out Try.underlying46 ?_ ?_ ?_; rfl; rfl; go_simp; rfl; kernel_rfl)
          | (with_reducible refine wpList_load_mid (op := Oper.mk (some 28) (Op.load 46 (Operand.tmp 9)) _ _ _ _) ?_ 46 (.tmp 9) ?_ (wr.heap.size + 1) (0) ?_ [.string y.meter, .bool y.win.has, .int .i64 y.win.a.y, .int .i64 y.win.a.m, .int .i64 y.win.a.d, .int .i64 y.win.b.y, .int .i64 y.win.b.m, .int .i64 y.win.b.d, .int .i64 y.allowance, .int .i64 y.block, .int .i64 y.kind, .slice ta' y.tiers.length tc', .int .i64 y.mode, .slice aa' y.adjusts.length ac', .int .i64 y.line, .int .i64 y.col] _ r4.out Try.underlying46 ?_ ?_ ?_; rfl; rfl; go_simp; rfl; kernel_rfl)
          | (with_reducible refine wpList_store_new (op := Oper.mk none (Op.store 46 (Operand.tmp 8) (Operand.tmp 21)) _ _ _ _) ?_ 46 (.tmp 8) (.tmp 21) ?_ wr _ #[.string x.meter, .bool x.win.has, .int .i64 x.win.a.y, .int .i64 x.win.a.m, .int .i64 x.win.a.d, .int .i64 x.win.b.y, .int .i64 x.win.b.m, .int .i64 x.win.b.d, .int .i64 x.allowance, .int .i64 x.block, .int .i64 x.kind, .slice ta x.tiers.length tc, .int .i64 x.mode, .slice aa x.adjusts.length ac, .int .i64 x.line, .int .i64 x.col] ?_ ?_ ?_ ?_ ?_ ?_; rfl; rfl; go_simp; go_simp; kernel_rfl; rfl; (simp [Value.oneCell']))
          | (with_reducible refine wpList_store_new (op := Oper.mk none (Op.store 46 (Operand.tmp 9) (Operand.tmp 25)) _ _ _ _) ?_ 46 (.tmp 9) (.tmp 25) ?_ (wr.alloc (.cells #[.string x.meter, .bool x.win.has, .int .i64 x.win.a.y, .int .i64 x.win.a.m, .int .i64 x.win.a.d, .int .i64 x.win.b.y, .int .i64 x.win.b.m, .int .i64 x.win.b.d, .int .i64 x.allowance, .int .i64 x.block, .int .i64 x.kind, .slice ta x.tiers.length tc, .int .i64 x.mode, .slice aa x.adjusts.length ac, .int .i64 x.line, .int .i64 x.col] 46)) _ #[.string y.meter, .bool y.win.has, .int .i64 y.win.a.y, .int .i64 y.win.a.m, .int .i64 y.win.a.d, .int .i64 y.win.b.y, .int .i64 y.win.b.m, .int .i64 y.win.b.d, .int .i64 y.allowance, .int .i64 y.block, .int .i64 y.kind, .slice ta' y.tiers.length tc', .int .i64 y.mode, .slice aa' y.adjusts.length ac', .int .i64 y.line, .int .i64 y.col] ?_ ?_ ?_ ?_ ?_ ?_; rfl; rfl; go_simp; go_simp; kernel_rfl; rfl; (simp [Value.oneCell']))
          | fail)
        refine (cS _ BW.out).mono ?_
        rintro e w' ⟨rfl, b3⟩
        have HB := hid (bel_on (bel_on hb.out BW.out) b3)
        clear cS b3 r1 r2 r3 r4 BW SZ
        rcases Bool.eq_false_or_eq_true (sameC x y) with g | g
        · rw [g]
          have K2 : Hid (R = eqL sameC (xs.drop (i' + 1).toNat) (ys.drop (i' + 1).toNat)) := hid (by rw [K.out, g, Bool.true_and])
          go_wp2
          go_roundw
          case rel => exact ⟨i' + 1, rfl, by omega, by omega, K2, HB⟩
          case measure => simp [intOf]; omega
        · rw [g]
          have K2 : Hid (R = false) := hid (by rw [K.out, g, Bool.false_and])
          go_wp2
          go_ret
          exact ⟨by rw [K2.out]; rfl, HB.out⟩
      · obtain rfl : i' = n := by omega
        have K2 : Hid (R = true) := hid (by rw [hh.out]; exact eqL_end (by have := HN.out; omega) (by have := HM.out; omega))
        go_wp2
        go_ret
        exact ⟨by rw [K2.out]; rfl, hb.out⟩
  · have K2 : Hid (R = false) := hid (by rw [HR.out]; exact eqL_len (by have := HN.out; have := HM.out; omega))
    go_wp2
    go_ret
    exact ⟨by rw [K2.out]; rfl, Below.refl _ _⟩
set_option maxHeartbeats 4000000 in
theorem eachC_any (xs ys : List Charge) (ma : Option Addr) (mc : Nat) (fa : Option Addr) (fc : Nat) (w : World) (hx : Row tCharge w ma xs.length mc xs) (hy : Row tCharge w fa ys.length fc ys) :
    Calls Try.prog 32 #[.slice ma xs.length mc, .slice fa ys.length fc, .func (.func 33) #[] #[]] w fun e w' => e = .returned (.bool (eqL sameC xs ys)) ∧ Below w.heap.size w w' := by
  have c := eqfC_any xs ys ma mc fa fc w hx hy
  clear hx hy
  go_enter Try.func32, Try.ntmps32
  go_wp2_with fail
  refine c.mono ?_
  rintro e w' ⟨rfl, b⟩
  clear c
  go_wp2
  go_ret
  exact ⟨rfl, b⟩
end Go.Proofs.Ytfeccjcdpiopaaa.Te

/- CurveIs (layer 15): Of and At answer what the document says. -/
import Derived.Test.YtemjmdfmcblgnaaJL15b
import Derived.Test.YtemjmdfmcblgnaaJRef15
import Derived.Test.YtemjmdfmcblgnaaJL15
import Derived.Maps.AppendAt
import Derived.Test.YtemjmdfmcblgnaaJPureL
import Derived.Lib.QuietBelowIn
import Derived.Sort.QuietTacIn
namespace Go.Proofs.Ytemjmdfmcblgnaa.P
end Go.Proofs.Ytemjmdfmcblgnaa.P
namespace Go.Proofs.Ytemjmdfmcblgnaa.Mm
end Go.Proofs.Ytemjmdfmcblgnaa.Mm
namespace Go.Proofs.Ytemjmdfmcblgnaa.R6
end Go.Proofs.Ytemjmdfmcblgnaa.R6
namespace Go.Proofs.Ytemjmdfmcblgnaa.R14
end Go.Proofs.Ytemjmdfmcblgnaa.R14
namespace Go.Proofs.Ytemjmdfmcblgnaa.L14
end Go.Proofs.Ytemjmdfmcblgnaa.L14
namespace Go.Proofs.Ytemjmdfmcblgnaa.L15
open Go.RowKit Go.Sort P Mm R6 R14 L14
theorem eqC_self (m : Int) (a : List Gp) : R15.eqC m a m a = true := by unfold R15.eqC; rw [decide_eq_true rfl, decide_eq_true rfl]; rfl
theorem ofM_0 (l : List Int) : ofM 0 l = R15.oM l := by unfold ofM R15.oM; rw [ofB_0]
theorem ofG_0 (l : List Int) : ofG 0 l = R15.oG l := by unfold ofG R15.oG; rw [ofB_0]
theorem of_else {k : Int} {l : List Int} (h : k ≠ 0) : ofB k l = false ∧ ofM k l = 0 ∧ ofG k l = [] := by
  have e : ofB k l = false := by unfold ofB; rw [decide_eq_false h]; rfl
  unfold ofM ofG
  rw [e]
  exact ⟨rfl, rfl, rfl⟩
theorem at_out {l : List Int} {q : Int} (h : q < 0 ∨ (l.length : Int) ≤ q) : atL 0 l q = none := by
  unfold atL
  split
  · rfl
  · rw [List.getElem?_eq_none (by omega)]
set_option maxHeartbeats 4000000 in
set_option maxRecDepth 100000 in
theorem is_walk (S : LnO) (C : Cu) (k : Int) (l : List Int) (ao : Option Addr) (cap : Nat) (q : Int) (w : World) (hl : Row tInt w ao l.length cap l) (hq : I64 q) :
    Calls Try.prog 3 #[.int .i64 k, .slice ao l.length cap, .int .i64 q] w fun e w' => e = .returned (.bool true) ∧ Below w.heap.size w w' := by
  have cA := hid (alive_any S C w)
  have lm := hl.hmax
  have lc := hl.hcap
  have HL := hid (fun (W : World) (b : Below w.heap.size w W) => hl.on b)
  have HLL := hid hl
  have HQ := hid hq
  clear hl hq
  go_enter Try.func3, Try.ntmps3
  go_wp2_with fail
  refine cA.out.mono ?_
  rintro e w1 ⟨rfl, b1⟩
  have B1 := hid b1
  clear b1 cA
  by_cases h1 : 3000 < l.length
  · have z1 : decide ((3000 : Int) < (l.length : Int)) = true := decide_eq_true (by omega)
    go_wp2
    go_ret
    exact ⟨rfl, B1.out⟩
  have z1 : decide ((3000 : Int) < (l.length : Int)) = false := decide_eq_false (by omega)
  by_cases h2 : 1048576 < k
  · have z2 : decide (1048576 < k) = true := decide_eq_true h2
    go_wp2
    go_ret
    exact ⟨rfl, B1.out⟩
  have z2 : decide (1048576 < k) = false := decide_eq_false h2
  by_cases h3 : k < -1048576
  · have z3 : decide (k < -1048576) = true := decide_eq_true h3
    go_wp2
    go_ret
    exact ⟨rfl, B1.out⟩
  have z3 : decide (k < -1048576) = false := decide_eq_false h3
  have hp : Ply k l := ply_of (by omega) (by omega) (by omega) (row_vals HLL.out)
  have cO := fun (W : World) (b : Below w.heap.size w W) => S.of k l ao cap W (HL.out W b) (by omega) (by omega) (by omega)
  have cC := fun a2 c2 W h => C.of k l a2 c2 W h hp (by omega)
  have cR := fun (W : World) (b : Below w.heap.size w W) => R15.of_any l ao cap W (HL.out W b)
  obtain ⟨R1, hR1⟩ : ∃ R, R = runsF k l := ⟨_, rfl⟩
  rw [← hR1] at cO cC
  obtain ⟨N1, hN1⟩ : ∃ N, N = R1.length := ⟨_, rfl⟩
  rw [← hN1] at cO cC
  have cO := hid cO
  clear hp hR1 hN1 h1 h2 h3
  by_cases hk : k = 0
  rotate_left
  · obtain ⟨e1, e2, e3⟩ := of_else (l := l) hk
    rw [e1, e2, e3] at cC
    have cC := hid (fun a2 c2 W h => show Calls Try.prog 9 #[.agg #[.slice a2 N1 c2]] W fun e w' => (∃ ao' cap', e = .returned (.tuple #[.agg #[.int .i64 0, .slice ao' 0 cap'], .bool false]) ∧ Row tGp w' ao' 0 cap' []) ∧ Below W.heap.size W w' from cC a2 c2 W h)
    obtain ⟨M, hM⟩ : ∃ M, M = R15.oM l := ⟨_, rfl⟩
    obtain ⟨G, hG⟩ : ∃ M, M = R15.oG l := ⟨_, rfl⟩
    obtain ⟨Q, hQ⟩ : ∃ M, M = curB l := ⟨_, rfl⟩
    rw [← hM, ← hG, ← hQ] at cR
    have cR := hid cR
    have zk : (k == 0) = false := by rw [beq_eq_false_iff_ne]; exact hk
    clear hM hG hQ e1 e2 e3
    go_wp2_with fail
    refine (cO.out w1 B1.out).mono ?_
    rintro e w2 ⟨⟨a2, c2, rfl, r2⟩, b2⟩
    have B2 := hid (bel_on B1.out b2)
    have R2 := hid r2
    clear b2 r2 cO B1
    go_wp2_with fail
    refine (cC.out a2 c2 w2 R2.out).mono ?_
    rintro e w3 ⟨⟨a3, c3, rfl, r3⟩, b3⟩
    obtain ⟨w4, hw4⟩ : ∃ W, W = w3.alloc (.cells #[.int .i64 0, .slice a3 0 c3] 26) := ⟨_, rfl⟩
    obtain ⟨k4, hk4⟩ : ∃ k, k = w3.heap.size := ⟨_, rfl⟩
    have b34 : Below w3.heap.size w3 w4 := by rw [hw4]; exact bel_alloc _ _
    have X4 : Box w4 k4 [.int .i64 0, .slice a3 0 c3] := by rw [hw4, hk4]; exact Box.new w3 [.int .i64 0, .slice a3 0 c3] _
    have B4 := hid (bel_on (bel_on B2.out b3) b34)
    have HX := hid X4
    have HW := hid hw4
    have HK := hid hk4
    clear b3 r3 cC R2 B2 hw4 hk4 b34 X4
    go_upto_region 6 with fail
    rw [← HW.out, ← HK.out]
    clear HW HK
    go_wp2_with fail
    refine (cR.out w4 B4.out).mono ?_
    rintro e w5 ⟨⟨a5, c5, rfl, r5⟩, b5⟩
    have b6 := bel_on b5 (bel_alloc w5 (.cells #[.int .i64 M, .slice a5 G.length c5] 26))
    have B6 := hid (bel_on B4.out b6)
    have X6 := HX.out.on b6
    have d0 := X6.cell 0 _ rfl; have d1 := X6.cell 1 _ rfl; have l6 := X6.lt
    clear cR b5 r5 b6 X6 HX B4
    go_wp2
    go_ret
    exact ⟨rfl, B6.out⟩
  subst hk
  rw [ofM_0, ofG_0, ofB_0] at cC
  have cS := fun a2 c2 a3 c3 W h1 h2 => R15.same_any (R15.oM l) (R15.oG l) a2 c2 (R15.oM l) (R15.oG l) a3 c3 W h1 h2
  rw [eqC_self] at cS
  have cT := fun (h : curB l = true) (a2 : Option Addr) (c2 : Nat) (W : World) (hr : Row tGp W a2 (R15.oG l).length c2 (R15.oG l)) => (show Calls Try.prog 13 #[.agg #[.int .i64 (R15.oM l), .slice a2 (R15.oG l).length c2], .int .i64 q] W fun e w' => e = .returned (.tuple #[.int .i64 (vO (atL 0 l q)), .bool (bO (atL 0 l q))]) ∧ Below W.heap.size W w' by
    obtain ⟨e1, e2⟩ := R15.o_yes h
    rw [e1, e2]
    rw [e2] at hr
    exact C.at' l q a2 c2 W hr h HQ.out)
  obtain ⟨M, hM⟩ : ∃ M, M = R15.oM l := ⟨_, rfl⟩
  obtain ⟨G, hG⟩ : ∃ M, M = R15.oG l := ⟨_, rfl⟩
  rw [← hM, ← hG] at cR cC cS cT
  have cR := hid cR; have cC := hid cC; have cS := hid cS; have cT := hid cT
  clear hM hG
  go_wp2_with fail
  refine (cO.out w1 B1.out).mono ?_
  rintro e w2 ⟨⟨a2, c2, rfl, r2⟩, b2⟩
  have B2 := hid (bel_on B1.out b2)
  have R2 := hid r2
  clear b2 r2 cO B1
  go_wp2_with fail
  refine (cC.out a2 c2 w2 R2.out).mono ?_
  rintro e w3 ⟨⟨a3, c3, rfl, r3⟩, b3⟩
  obtain ⟨w4, hw4⟩ : ∃ W, W = w3.alloc (.cells #[.int .i64 M, .slice a3 G.length c3] 26) := ⟨_, rfl⟩
  obtain ⟨k4, hk4⟩ : ∃ k, k = w3.heap.size := ⟨_, rfl⟩
  have b34 : Below w3.heap.size w3 w4 := by rw [hw4]; exact bel_alloc _ _
  have X4 : Box w4 k4 [.int .i64 M, .slice a3 G.length c3] := by rw [hw4, hk4]; exact Box.new w3 [.int .i64 M, .slice a3 G.length c3] _
  have B4 := hid (bel_on (bel_on B2.out b3) b34)
  have R4 := hid (r3.on b34)
  have HX4 := hid X4
  have HW := hid hw4
  have HK := hid hk4
  clear b3 r3 cC R2 B2 hw4 hk4 b34 X4
  go_upto_region 6 with fail
  rw [← HW.out, ← HK.out]
  clear HW HK
  go_wp2_with fail
  refine (cR.out w4 B4.out).mono ?_
  rintro e w5 ⟨⟨a5, c5, rfl, r5⟩, b5⟩
  obtain ⟨w6, hw6⟩ : ∃ W, W = w5.alloc (.cells #[.int .i64 M, .slice a5 G.length c5] 26) := ⟨_, rfl⟩
  obtain ⟨k6, hk6⟩ : ∃ k, k = w5.heap.size := ⟨_, rfl⟩
  have b56 : Below w5.heap.size w5 w6 := by rw [hw6]; exact bel_alloc _ _
  have X6 : Box w6 k6 [.int .i64 M, .slice a5 G.length c5] := by rw [hw6, hk6]; exact Box.new w5 [.int .i64 M, .slice a5 G.length c5] _
  have b46 := bel_on b5 b56
  have HX := hid (fun (W : World) (b : Below w6.heap.size w6 W) => (⟨HX4.out.on (bel_on b46 b), X6.on b, R4.out.on (bel_on b46 b), (r5.on b56).on b, bel_on (bel_on B4.out b46) b⟩ : Box W k4 [.int .i64 M, .slice a3 G.length c3] ∧ Box W k6 [.int .i64 M, .slice a5 G.length c5] ∧ Row tGp W a3 G.length c3 G ∧ Row tGp W a5 G.length c5 G ∧ Below w.heap.size w W))
  have B6 := hid (Below.refl w6.heap.size w6)
  have HW := hid hw6
  have HK := hid hk6
  clear b5 r5 cR hw6 hk6 b56 X6 b46 HX4 R4 B4
  go_upto_region 7 with fail
  rw [← HW.out, ← HK.out]
  clear HW HK
  obtain ⟨p1, p2, p3, p4, p5⟩ := HX.out w6 B6.out
  have d0 := p1.cell 0 _ rfl; have d1 := p1.cell 1 _ rfl; have d2 := p2.cell 0 _ rfl; have d3 := p2.cell 1 _ rfl; have l1 := p1.lt; have l2 := p2.lt
  have c1 := hid (cS.out a3 c3 a5 c5 w6 p3 p4)
  clear p1 p2 p3 p4 p5 cS
  obtain ⟨Q, hQ⟩ : ∃ Q, Q = curB l := ⟨_, rfl⟩
  rw [← hQ] at cT ⊢
  clear hQ
  cases Q with
  | false =>
    go_wp2_with fail
    refine c1.out.mono ?_
    rintro e w7 ⟨rfl, b7⟩
    have BF := hid (HX.out w7 (bel_on B6.out b7)).2.2.2.2
    clear c1 b7 d0 d1 d2 d3 l1 l2
    go_wp2
    go_ret
    exact ⟨rfl, BF.out⟩
  | true =>
    go_wp2_with fail
    refine c1.out.mono ?_
    rintro e w7 ⟨rfl, b7⟩
    have B7 := hid (bel_on B6.out b7)
    obtain ⟨p1, -, p3, -, -⟩ := HX.out w7 B7.out
    have d0 := p1.cell 0 _ rfl; have d1 := p1.cell 1 _ rfl; have l1 := p1.lt
    have c2 := cT.out trivial a3 c3 w7 p3
    clear c1 b7 p1 p3 B6 cT d2 d3 l2
    by_cases g1 : q < 0
    · have y1 : decide (q < 0) = true := decide_eq_true g1
      rw [at_out (.inl g1)] at c2
      have c2 := hid c2
      go_wp2_with fail
      refine c2.out.mono ?_
      rintro e w8 ⟨rfl, b8⟩
      have BF := hid (HX.out w8 (bel_on B7.out b8)).2.2.2.2
      rw [show vO none = 0 from rfl, show bO none = false from rfl]
      clear c2 b8 d0 d1 l1
      go_wp2
      go_ret
      exact ⟨rfl, BF.out⟩
    have y1 : decide (q < 0) = false := decide_eq_false g1
    by_cases g2 : (l.length : Int) ≤ q
    · have y2 : decide ((l.length : Int) ≤ q) = true := decide_eq_true g2
      rw [at_out (.inr g2)] at c2
      have c2 := hid c2
      go_wp2_with fail
      refine c2.out.mono ?_
      rintro e w8 ⟨rfl, b8⟩
      have BF := hid (HX.out w8 (bel_on B7.out b8)).2.2.2.2
      rw [show vO none = 0 from rfl, show bO none = false from rfl]
      clear c2 b8 d0 d1 l1
      go_wp2
      go_ret
      exact ⟨rfl, BF.out⟩
    have y2 : decide ((l.length : Int) ≤ q) = false := decide_eq_false g2
    obtain ⟨v, hv⟩ : ∃ v, l[q.toNat]? = some v := ⟨_, List.getElem?_eq_getElem (by omega)⟩
    rw [show atL 0 l q = some v by unfold atL; rw [if_neg g1, Int.sub_zero]; exact hv] at c2
    have c2 := hid c2
    have q0 : 0 ≤ q := by omega
    have q1 : q < (l.length : Int) := by omega
    have HV := hid hv
    clear hv g1 g2
    go_wp2_with fail
    refine c2.out.mono ?_
    rintro e w8 ⟨rfl, b8⟩
    have BF := hid (HX.out w8 (bel_on B7.out b8)).2.2.2.2
    obtain ⟨lb, lo, el, -, x0, -⟩ := int_at (HL.out w8 BF.out) HV.out
    subst el
    rw [show vO (some v) = v from rfl, show bO (some v) = true from rfl]
    have vv : (v == v) = true := by simp
    clear c2 b8 d0 d1 l1
    go_wp2
    go_ret
    exact ⟨rfl, BF.out⟩
end Go.Proofs.Ytemjmdfmcblgnaa.L15
/- Package line, walked: with (a value more behind runs), of numbers, texts and truths. -/
namespace Go.Proofs.Ytemjmdfmcblgnaa.Li
open Go.RowKit Go.Sort P Mm R6 R14 L14
/-- Runs, and behind them a value from a number to another one; nothing, if that is below it. -/
def withR {α : Type} [DecidableEq α] (rs : List (Rn α)) (r : Rn α) : List (Rn α) := if r.b < r.a then rs else addR rs r
theorem grown_set (w : World) (g i : Nat) (v : Value) : w.grownBy (w.setCell ⟨g, i, none⟩ v) (some g) :=
  ⟨rfl, rfl, rfl, by simp, fun k _ hne => Below.heap_setCell _ _ _ k (fun e => hne (by rw [e]))⟩
theorem flat_b {α : Type} {c : Rn α → List Value} {f : α → Value} (hc : ∀ r, c r = [.int .i64 r.a, .int .i64 r.b, f r.v]) (ys : List (Rn α)) (z : Rn α) (b : Int) : ((ys ++ [z]).flatMap c).set (ys.length * 3 + 1) (.int .i64 b) = (ys ++ [(⟨z.a, b, z.v⟩ : Rn α)]).flatMap c := by
  have hl : (ys.flatMap c).length = ys.length * 3 := flat_len (f := c) (n := 3) (fun r => by rw [hc]; rfl) _
  rw [List.flatMap_append, List.flatMap_append, List.set_append_right _ _ (by omega), hl, show ys.length * 3 + 1 - ys.length * 3 = 1 by omega]
  simp [hc]
theorem flat_v {α : Type} {c : Rn α → List Value} {f : α → Value} (hc : ∀ r, c r = [.int .i64 r.a, .int .i64 r.b, f r.v]) (ys : List (Rn α)) (z : Rn α) : ((ys ++ [z]).flatMap c)[ys.length * 3 + 2]? = some (f z.v) :=
  flat_get (cells := c) (n := 3) (fun r => by rw [hc]; rfl) (ys ++ [z]) ys.length z 2 _ (by simp) (by rw [hc]; rfl)
theorem info_int : (Try.prog.info? 51).map (fun i => (i.zero, i.size, i.bytes)) = some (some (.agg #[.int .i64 0, .int .i64 0, .int .i64 0]), 3, 24) := by kernel_rfl
set_option maxHeartbeats 1600000 in
set_option maxRecDepth 100000 in
theorem with_int (rs : List (Rn Int)) (V : Value) (n0 N : Nat) (a b : Int) (x : Int) (w : World) (hN : N = rs.length) (oo : w.ownsRow n0 51 3 V N (rs.flatMap rnC)) (hok : ∀ r ∈ rs, RnOk r) (hs : n0 ≤ w.heap.size) (hl : N ≤ 1000000) :
    Calls Try.prog 25 #[V, .int .i64 a, .int .i64 b, .int .i64 x] w fun e w' => ∃ V' M, e = .returned V' ∧ M = (withR rs ⟨a, b, x⟩).length ∧ w'.ownsRow n0 51 3 V' M ((withR rs ⟨a, b, x⟩).flatMap rnC) ∧ w.grownBy w' V.ownBlock := by
  have hr : w.ownsRow n0 51 3 V rs.length (rs.flatMap rnC) := hN ▸ oo
  obtain ⟨ao, cap, e, R⟩ := row_own (n := 3) (cells := rnC) (ok := RnOk) (hn := fun _ => rfl) hr hok
  have lm := R.hmax
  have lc := R.hcap
  rw [← hN] at e lc
  subst e
  have wk : IntKind.i64.wrap ((N : Int) - 1) = (N : Int) - 1 := wrap_l (by unfold I64; omega)
  obtain ⟨i0, hi0, hz0, hz1, hz2⟩ := info_parts info_int
  clear hr R
  by_cases hba : b < a
  · have z : decide (b < a) = true := decide_eq_true hba
    have EW := hid (show withR rs ⟨a, b, x⟩ = rs by unfold withR; rw [if_pos hba])
    have O := hid oo
    have HN := hid hN
    clear oo hN hba wk
    go_enter Try.func25, Try.ntmps25
    go_wp2
    go_ret
    exact ⟨_, N, rfl, by rw [EW.out]; exact HN.out, by rw [EW.out]; exact O.out, .refl _ _⟩
  · have z : decide (b < a) = false := decide_eq_false hba
    have EW := show withR rs ⟨a, b, x⟩ = addR rs ⟨a, b, x⟩ by unfold withR; rw [if_neg hba]
    rcases List.eq_nil_or_concat rs with hnil | ⟨ys, zz, hcat⟩
    · subst hnil
      have N0 : N = 0 := hN
      subst N0
      have EW2 := hid (show withR [] ⟨a, b, x⟩ = [⟨a, b, x⟩] by rw [EW]; rfl)
      have O := hid oo
      have HS := hid hs
      clear oo hN hba EW hok hs
      go_enter Try.func25, Try.ntmps25
      go_wp2_with (at_builtin; refine wpList_append_own _ rfl _ _ 29 rfl n0 51 i0 (.agg #[.int .i64 0, .int .i64 0, .int .i64 0]) 3 24 Try.underlying29 hi0 hz0 hz1 hz2 rfl (by decide) _ _ _ rfl (O.out.alloc _) ⟨w.heap.size, 0, none⟩ 1 1 (rnC ⟨a, b, x⟩) rfl rfl (news_at w (rnC ⟨a, b, x⟩) _) (by simp [rnC, Value.oneCell']) (by unfold maxLen; omega) (by omega) (by have := HS.out; simp; omega) ?_)
      intro v5 w5 hown hgrow _
      have O5 := hid hown
      have G5 := hid (grown_unalloc hgrow)
      clear hown hgrow
      go_wp2
      go_ret
      exact ⟨_, 1, rfl, by rw [EW2.out]; rfl, by rw [EW2.out]; exact O5.out, G5.out⟩
    · rw [List.concat_eq_append] at hcat
      subst hcat
      obtain ⟨m, hm⟩ : ∃ m, m = ys.length := ⟨_, rfl⟩
      have N1 : N = m + 1 := by rw [hN, hm]; simp
      subst N1
      obtain ⟨g, cp, e, lg0, lg⟩ := oo.form (by omega)
      simp only [Value.slice.injEq] at e
      obtain ⟨rfl, -, rfl⟩ := e
      obtain ⟨p, hp⟩ : ∃ p, p = zz.v := ⟨_, rfl⟩
      have m0 : w.cell? ⟨g, m * 3 + 2, none⟩ = some (.int .i64 p) := by rw [oo.cellAt _ (by omega), hm, flat_v (c := rnC) (f := fun v => .int .i64 v) (fun _ => rfl), hp]
      have m1 : w.frozen? ⟨g, m * 3 + 1, none⟩ = false := oo.frozenAt _
      have mI : (m : Int) < (m : Int) + 1 := by omega
      have mI0 : (0 : Int) ≤ (m : Int) := by omega
      have wk2 : IntKind.i64.wrap ((m : Int) + 1 - 1) = (m : Int) := by rw [show (m : Int) + 1 - 1 = (m : Int) by omega]; exact wrap_l (by unfold I64; omega)
      by_cases hpv : p = x
      · have z1 : (p == x) = true := by rw [hpv]; simp
        have EW2 := hid (show withR (ys ++ [zz]) ⟨a, b, x⟩ = ys ++ [⟨zz.a, b, zz.v⟩] by rw [EW, add_same (by rw [← hp]; exact hpv)])
        have O2 := hid (show (w.setCell ⟨g, m * 3 + 1, none⟩ (.int .i64 b)).ownsRow n0 51 3 (.slice (some ⟨g, 0, none⟩) (m + 1) cap) (m + 1) ((ys ++ [(⟨zz.a, b, zz.v⟩ : Rn Int)]).flatMap rnC) by
          have h := (oo.stored (m * 3 + 1) (.int .i64 b)).1
          rw [hm, flat_b (c := rnC) (f := fun v => .int .i64 v) (fun _ => rfl)] at h
          rw [hm]
          exact h)
        have HM := hid hm
        have m2 : ∃ u, w.cell? ⟨g, m * 3 + 1, none⟩ = some u := ⟨.int .i64 zz.b, by
          rw [oo.cellAt _ (by omega), hm]
          exact flat_get (cells := rnC) (n := 3) (fun _ => rfl) (ys ++ [zz]) ys.length zz 1 _ (by simp) rfl⟩
        obtain ⟨u, m2⟩ := m2
        clear oo hN hba EW hok hs hpv hm hp wk
        go_enter Try.func25, Try.ntmps25
        go_wp2
        go_ret
        exact ⟨_, m + 1, rfl, by rw [EW2.out, HM.out]; simp, by rw [EW2.out]; exact O2.out, grown_set _ _ _ _⟩
      · have z1 : (p == x) = false := by rw [beq_eq_false_iff_ne]; exact hpv
        have EW2 := hid (show withR (ys ++ [zz]) ⟨a, b, x⟩ = (ys ++ [zz]) ++ [⟨a, b, x⟩] by rw [EW, add_new (by rw [← hp]; exact hpv)])
        have HM := hid hm
        have O := hid oo
        have HS := hid hs
        clear oo hN hba EW hok hs hpv hm hp wk
        go_enter Try.func25, Try.ntmps25
        go_wp2_with (at_builtin; refine wpList_append_own _ rfl _ _ 29 rfl n0 51 i0 (.agg #[.int .i64 0, .int .i64 0, .int .i64 0]) 3 24 Try.underlying29 hi0 hz0 hz1 hz2 rfl (by decide) _ _ _ rfl (O.out.alloc _) ⟨w.heap.size, 0, none⟩ 1 1 (rnC ⟨a, b, x⟩) rfl rfl (news_at w (rnC ⟨a, b, x⟩) _) (by simp [rnC, Value.oneCell']) (by unfold maxLen; omega) (by omega) (by have := HS.out; simp; omega) ?_)
        intro v5 w5 hown hgrow _
        have O5 := hid (show w5.ownsRow n0 51 3 v5 (m + 1 + 1) ((ys ++ [zz] ++ [(⟨a, b, x⟩ : Rn Int)]).flatMap rnC) by
          rw [List.flatMap_append]
          simpa using hown)
        have G5 := hid (grown_unalloc hgrow)
        clear hown hgrow
        go_wp2
        go_ret
        exact ⟨_, m + 1 + 1, rfl, by rw [EW2.out, HM.out]; simp, by rw [EW2.out]; exact O5.out, G5.out⟩
end Go.Proofs.Ytemjmdfmcblgnaa.Li
/- Package line, walked: Of, Count, At, Span, Flat. -/
namespace Go.Proofs.Ytemjmdfmcblgnaa.Li
open Go.RowKit Go.Sort P Mm R6 R14 L14
theorem rn_ok {k : Int} {l : List Int} (h1 : -2147483648 ≤ k) (h2 : k ≤ 2147483648) (h3 : l.length ≤ 8589934592) (hv : ∀ v ∈ l, I64 v) : ∀ r ∈ runsF k l, RnOk r := runs_ok (by unfold Lim; omega) (by omega) hv
set_option maxHeartbeats 1600000 in
set_option maxRecDepth 100000 in
theorem of_int (k : Int) (l : List Int) (ao : Option Addr) (cap : Nat) (w : World) (hl : Row tInt w ao l.length cap l) (h1 : -2147483648 ≤ k) (h2 : k ≤ 2147483648) (h3 : l.length ≤ 100000) (hok : ∀ r ∈ runsF k l, RnOk r) (hokt : ∀ i, ∀ r ∈ runsF k (l.take i), RnOk r) :
    Calls Try.prog 10 #[.int .i64 k, .slice ao l.length cap] w fun e w' => (∃ ao' cap', e = .returned (.agg #[.slice ao' (runsF k l).length cap']) ∧ Row tRn w' ao' (runsF k l).length cap' (runsF k l)) ∧ Below w.heap.size w w' := by
  obtain ⟨w1, hw1⟩ : ∃ W, W = w.alloc (.cells ([.slice none 0 0] : List Value).toArray 31) := ⟨_, rfl⟩
  obtain ⟨k1, hk1⟩ : ∃ k, k = w.heap.size := ⟨_, rfl⟩
  have b1 : Below w.heap.size w w1 := by rw [hw1]; exact bel_alloc _ _
  have X1 : Box w1 k1 [.slice none 0 0] := by rw [hw1, hk1]; exact Box.new w _ _
  have e1 : w1.heap.size = w.heap.size + 1 := by rw [hw1]; simp
  have X := hid (fun (W : World) (b : Below w1.heap.size w1 W) => (⟨X1.on b, bel_on b1 b⟩ : Box W k1 [.slice none 0 0] ∧ Below w.heap.size w W))
  have HL := hid (fun (W : World) (b : Below w1.heap.size w1 W) => hl.on (bel_on b1 b))
  have OK := hid hok
  have OKT := hid hokt
  have HB := hid (show w.heap.size ≤ k1 ∧ k1 < w1.heap.size by omega)
  have HW := hid hw1
  have HK := hid hk1
  have B0 := hid (Below.refl w1.heap.size w1)
  have lm := hl.hmax
  have lc := hl.hcap
  clear hw1 hk1 X1 b1 hl e1 hok hokt
  go_enter Try.func10, Try.ntmps10
  go_upto_region 1 with fail
  rw [← HW.out, ← HK.out]
  clear HW HK
  go_wp2
  go_loopw [5, 10] (fun v i wr => ∃ (V : Value) (i' : Nat) (N : Nat), V = v ∧ i = .int .i64 (i' : Int) ∧ i' ≤ l.length ∧ Hid (N = (runsF k (l.take i')).length) ∧ Hid (wr.ownsRow w1.heap.size 51 3 V N ((runsF k (l.take i')).flatMap rnC)) ∧ Hid (Below w1.heap.size w1 wr)) (fun _ i _ => l.length - (intOf i).toNat)
  case atStart => exact ⟨_, 0, 0, rfl, rfl, Nat.zero_le _, hid rfl, hid (World.ownsRow_nil _ _ _ _), B0⟩
  case round =>
    obtain ⟨V, i', N, rfl, rfl, hi, hN, hO, hb⟩ := hrel
    clear B0
    by_cases hlt : i' < l.length
    · obtain ⟨x, hx⟩ : ∃ x, l[i']? = some x := ⟨_, List.getElem?_eq_getElem hlt⟩
      obtain ⟨b, o, e, lb, q0, -⟩ := int_at (HL.out wr hb.out) hx
      subst e
      have wk : IntKind.i64.wrap (k + (i' : Int)) = k + (i' : Int) := wrap_l (by unfold I64; omega)
      have NL : N ≤ 1000000 := by
        have := hN.out
        have := runs_len (l.take i') k
        rw [List.length_take] at this
        omega
      have cW := hid (with_int (runsF k (l.take i')) V w1.heap.size N (k + (i' : Int)) (k + (i' : Int)) x wr hN.out hO.out (OKT.out i') hb.out.size NL)
      rw [show withR (runsF k (l.take i')) ⟨k + (i' : Int), k + (i' : Int), x⟩ = runsF k (l.take (i' + 1)) by
        unfold withR
        rw [if_neg (Int.lt_irrefl _)]
        exact (runs_take k l hx).symm] at cW
      have LV := hid (fun j hj => (hO.out.lt j hj).1)
      clear hO hN hx NL
      go_wp2_with fail
      refine cW.out.mono ?_
      rintro e w2 ⟨V2, M, rfl, hM, hO2, hg⟩
      have O2 := hid hO2
      have M2 := hid hM
      have B2 := hid (hb.out.grown hg hb.out.size LV.out)
      clear hO2 hM hg cW
      go_wp2
      go_roundw
      case rel => exact ⟨V2, i' + 1, M, rfl, by simp, by omega, M2, O2, B2⟩
      case measure => simp [intOf]; omega
    · have EA : l.take i' = l := List.take_of_length_le (by omega)
      have oo := hO.out
      have EN := hN.out
      rw [EA] at oo EN
      subst EN
      obtain ⟨ao2, cp, e, -⟩ := row_own (n := 3) (cells := rnC) (ok := RnOk) (hn := fun _ => rfl) oo OK.out
      subst e
      obtain ⟨N, hNN⟩ : ∃ N, N = (runsF k l).length := ⟨_, rfl⟩
      obtain ⟨V, hV⟩ : ∃ V, V = Value.slice ao2 (runsF k l).length cp := ⟨_, rfl⟩
      rw [← hV] at oo ⊢
      have RF := hid (show Row tRn (wr.setCell ⟨k1, 0, none⟩ V) ao2 (runsF k l).length cp (runsF k l) by
        have o2 := other_own oo (k := k1) (i := 0) HB.out.2 V
        obtain ⟨ao3, cp3, e3, R3⟩ := row_own (n := 3) (cells := rnC) (ok := RnOk) (hn := fun _ => rfl) o2 OK.out
        rw [hV] at e3
        simp only [Value.slice.injEq] at e3
        obtain ⟨rfl, -, rfl⟩ := e3
        exact R3)
      have BX := (X.out wr hb.out).1
      have c0 := BX.cell 0 _ rfl
      have f0 := BX.free 0
      have l0 := BX.lt
      have BF := hid ((X.out wr hb.out).2.setCell (p := ⟨k1, 0, none⟩) HB.out.1 V)
      have X7 := hid (show Box (wr.setCell ⟨k1, 0, none⟩ V) k1 [V] from BX.set 0 V)
      subst hV
      clear EA oo hN hO BX hNN
      go_wp2
      refine bodyPost_ret (v := .agg #[.slice ao2 (runsF k l).length cp]) ?_ rfl ⟨⟨ao2, cp, rfl, RF.out⟩, BF.out⟩
      exact Md.results_mid rfl _ _ k1 [.slice ao2 (runsF k l).length cp] _ rfl (fun j u h => by rw [Nat.zero_add]; exact X7.out.cell j u h) Try.underlying31 rfl (by kernel_rfl)
end Go.Proofs.Ytemjmdfmcblgnaa.Li
/- Package line, walked: Span, Equal, Runs. -/
namespace Go.Proofs.Ytemjmdfmcblgnaa.Li
open Go.RowKit Go.Sort Go.Shelf P Mm R6 R14 L14
attribute [local go_sem] Oper.semAt_some
set_option maxHeartbeats 1600000 in
set_option maxRecDepth 100000 in
theorem span_int (R : List (Rn Int)) (ao : Option Addr) (cap : Nat) (w : World) (hr : Row tRn w ao R.length cap R) (hn : R.length ≤ 100000) :
    Calls Try.prog 19 #[.agg #[.slice ao R.length cap]] w fun e w' => e = .returned (.tuple #[.int .i64 (spanR R).1, .int .i64 (spanR R).2.1, .bool (spanR R).2.2]) ∧ Below w.heap.size w w' := by
  obtain ⟨n, hnn⟩ : ∃ n, n = R.length := ⟨_, rfl⟩
  obtain ⟨w1, hw1⟩ : ∃ W, W = w.alloc (.cells ([.slice ao R.length cap] : List Value).toArray 31) := ⟨_, rfl⟩
  obtain ⟨k1, hk1⟩ : ∃ k, k = w.heap.size := ⟨_, rfl⟩
  have b1 : Below w.heap.size w w1 := by rw [hw1]; exact bel_alloc _ _
  have X1 : Box w1 k1 [.slice ao R.length cap] := by rw [hw1, hk1]; exact Box.new w _ _
  have R1 := hr.on b1
  have lc := hr.hcap
  have lm := hr.hmax
  rw [← hnn] at R1 X1 hw1 lc hn ⊢
  have c0 := X1.cell 0 _ rfl
  have l1 := X1.lt
  have B := hid b1
  have HW := hid hw1
  have HK := hid hk1
  have HN := hid hnn
  clear hw1 hk1 X1 b1 hr hnn
  rcases List.eq_nil_or_concat R with rfl | ⟨ys, z, hcat⟩
  · obtain rfl : n = 0 := HN.out
    go_enter Try.func19, Try.ntmps19
    go_upto_region 1 with fail
    rw [← HW.out, ← HK.out]
    clear HW HK
    go_wp2
    go_ret3
    exact ⟨rfl, B.out⟩
  · rw [List.concat_eq_append] at hcat
    obtain ⟨m, hm⟩ : ∃ m, n = m + 1 := ⟨ys.length, by rw [HN.out, hcat]; simp⟩
    subst hm
    have hl : R[m]? = some z := by
      have e := HN.out
      rw [hcat] at e ⊢
      simp only [List.length_append, List.length_singleton, Nat.add_right_cancel_iff] at e
      rw [e]
      simp
    obtain ⟨r, hf⟩ : ∃ r, R[0]? = some r := ⟨_, List.getElem?_eq_getElem (by have := HN.out; omega)⟩
    obtain ⟨gb, go, eg, lg, s0, s1, s2, -⟩ := rn_at R1 hl
    obtain ⟨gb', go', eg', lg', t0, t1, t2, -⟩ := rn_at R1 hf
    rw [eg] at eg'
    simp only [Option.some.injEq, Addr.mk.injEq, and_true] at eg'
    obtain ⟨rfl, rfl⟩ := eg'
    subst eg
    have E := hid (show spanR R = (r.a, z.b, true) by
      rcases R with _ | ⟨q, qs⟩
      · cases hf
      · obtain rfl : q = r := Option.some.inj hf
        have e2 : (q :: qs).getLast? = some z := by rw [hcat]; simp
        show (q.a, ((q :: qs).getLast?.getD q).b, true) = _
        rw [e2]
        rfl)
    have wk : IntKind.i64.wrap ((m : Int) + 1 - 1) = (m : Int) := by rw [show (m : Int) + 1 - 1 = (m : Int) by omega]; exact wrap_l (by unfold I64; omega)
    have i0 : (0 : Int) < (m : Int) + 1 := by omega
    have i1 : (m : Int) < (m : Int) + 1 := by omega
    have i2 : (0 : Int) ≤ (m : Int) := by omega
    have z9 : ((m : Int) + 1 == 0) = false := by rw [beq_eq_false_iff_ne]; omega
    have t0' : w1.cell? ⟨gb, go, none⟩ = some (.int .i64 r.a) := by simpa using t0
    clear t0 hl hf hcat HN R1
    go_enter Try.func19, Try.ntmps19
    go_upto_region 1 with fail
    rw [← HW.out, ← HK.out]
    clear HW HK
    go_wp2_with fail
    go_quiet (fail)
    go_wp2
    go_ret3
    rw [E.out]
    exact ⟨rfl, bel_drewN B.out _⟩
set_option maxHeartbeats 4000000 in
set_option maxRecDepth 100000 in
theorem eqs_int (R S : List (Rn Int)) (ao : Option Addr) (cap : Nat) (bo : Option Addr) (bcap : Nat) (w : World) (hr : Row tRn w ao R.length cap R) (hs : Row tRn w bo S.length bcap S) :
    Calls Try.prog 29 #[.slice ao R.length cap, .slice bo S.length bcap] w fun e w' => e = .returned (.bool (decide (R = S))) ∧ Below w.heap.size w w' := by
  obtain ⟨n, hnn⟩ : ∃ n, n = R.length := ⟨_, rfl⟩
  obtain ⟨m, hmm⟩ : ∃ m, m = S.length := ⟨_, rfl⟩
  have lc := hr.hcap
  have lm := hr.hmax
  have lc2 := hs.hcap
  have lm2 := hs.hmax
  have HR := hid (fun (W : World) (b : Below w.heap.size w W) => hr.on b)
  have HS := hid (fun (W : World) (b : Below w.heap.size w W) => hs.on b)
  rw [← hnn] at HR lc ⊢
  rw [← hmm] at HS lc2 ⊢
  have HN := hid hnn
  have HM := hid hmm
  have B0 := hid (Below.refl w.heap.size w)
  clear hr hs hnn hmm
  by_cases hlen : n = m
  · have z : ((n : Int) == (m : Int)) = true := by rw [beq_iff_eq]; omega
    subst hlen
    go_enter Try.func29, Try.ntmps29
    go_wp2
    go_loopw [13] (fun i wr => ∃ (i' : Nat), i = .int .i64 (i' : Int) ∧ i' ≤ n ∧ Hid (R.take i' = S.take i') ∧ Hid (Below w.heap.size w wr)) (fun i _ => n - (intOf i).toNat)
    case atStart => exact ⟨0, rfl, Nat.zero_le _, hid rfl, B0⟩
    case round =>
      obtain ⟨i', rfl, hi, hT, hb⟩ := hrel
      clear B0
      by_cases hlt : i' < n
      · obtain ⟨r, hr⟩ : ∃ r, R[i']? = some r := ⟨_, List.getElem?_eq_getElem (by have := HN.out; omega)⟩
        obtain ⟨s, hs⟩ : ∃ s, S[i']? = some s := ⟨_, List.getElem?_eq_getElem (by have := HM.out; omega)⟩
        obtain ⟨gb, go, eg, lg, s0, s1, s2, -⟩ := rn_at (HR.out wr hb.out) hr
        obtain ⟨hb', ho, eh, lh, t0, t1, t2, -⟩ := rn_at (HS.out wr hb.out) hs
        subst eg eh
        have i0 : (i' : Int) < (n : Int) := by omega
        have i2 : (0 : Int) ≤ (i' : Int) := by omega
        by_cases hrs : r = s
        · subst hrs
          have HT := hid (show R.take (i' + 1) = S.take (i' + 1) by rw [List.take_add_one, List.take_add_one, hT.out, hr, hs])
          clear hr hs
          go_wp2_with fail
          go_quiet (fail)
          go_wp2
          go_roundw
          case rel => exact ⟨i' + 1, by simp, by omega, HT, hid (bel_drewN hb.out _)⟩
          case measure => simp [intOf]; omega
        · have HD := hid (show decide (R = S) = false from decide_eq_false fun e => by
            rw [e, hs] at hr
            exact hrs (Option.some.inj hr).symm)
          obtain ⟨q1, z1⟩ : ∃ q, (r.a == s.a) = q := ⟨_, rfl⟩
          obtain ⟨q2, z2⟩ : ∃ q, (r.b == s.b) = q := ⟨_, rfl⟩
          obtain ⟨q3, z3⟩ : ∃ q, (r.v == s.v) = q := ⟨_, rfl⟩
          have hq : (q1 && q2 && q3) = false := by
            rw [Bool.eq_false_iff]
            intro h
            simp only [Bool.and_eq_true] at h
            obtain ⟨⟨rfl, rfl⟩, rfl⟩ := h
            refine hrs ?_
            have e1 := beq_iff_eq.1 z1
            have e2 := beq_iff_eq.1 z2
            have e3 : r.v = s.v := beq_iff_eq.1 z3
            cases r
            cases s
            simp_all
          clear hr hs hrs
          cases q1 <;> cases q2 <;> cases q3 <;> first
            | exact absurd hq (by decide)
            | (clear hq
               go_wp2_with fail
               go_quiet (fail)
               go_wp2
               go_ret
               exact ⟨by rw [HD.out]; rfl, bel_drewN hb.out _⟩)
      · have HD := hid (show decide (R = S) = true from decide_eq_true (by
          have e := hT.out
          rw [List.take_of_length_le (by have := HN.out; omega), List.take_of_length_le (by have := HM.out; omega)] at e
          exact e))
        go_wp2
        go_ret
        exact ⟨by rw [HD.out]; rfl, hb.out⟩
  · have z : ((n : Int) == (m : Int)) = false := by rw [beq_eq_false_iff_ne]; omega
    have HD := hid (show decide (R = S) = false from decide_eq_false fun e => hlen (by rw [HN.out, HM.out, e]))
    go_enter Try.func29, Try.ntmps29
    go_wp2
    go_ret
    exact ⟨by rw [HD.out]; rfl, B0.out⟩
set_option maxHeartbeats 1600000 in
set_option maxRecDepth 100000 in
theorem equal_int (R S : List (Rn Int)) (ao : Option Addr) (cap : Nat) (bo : Option Addr) (bcap : Nat) (w : World) (hr : Row tRn w ao R.length cap R) (hs : Row tRn w bo S.length bcap S) :
    Calls Try.prog 15 #[.agg #[.slice ao R.length cap], .agg #[.slice bo S.length bcap]] w fun e w' => e = .returned (.bool (decide (R = S))) ∧ Below w.heap.size w w' := by
  obtain ⟨w1, hw1⟩ : ∃ W, W = w.alloc (.cells ([.slice ao R.length cap] : List Value).toArray 31) := ⟨_, rfl⟩
  obtain ⟨k1, hk1⟩ : ∃ k, k = w.heap.size := ⟨_, rfl⟩
  have b1 : Below w.heap.size w w1 := by rw [hw1]; exact bel_alloc _ _
  have X1 : Box w1 k1 [.slice ao R.length cap] := by rw [hw1, hk1]; exact Box.new w _ _
  obtain ⟨w2, hw2⟩ : ∃ W, W = w1.alloc (.cells ([.slice bo S.length bcap] : List Value).toArray 31) := ⟨_, rfl⟩
  obtain ⟨k2, hk2⟩ : ∃ k, k = w1.heap.size := ⟨_, rfl⟩
  have b2 : Below w1.heap.size w1 w2 := by rw [hw2]; exact bel_alloc _ _
  have X2 : Box w2 k2 [.slice bo S.length bcap] := by rw [hw2, hk2]; exact Box.new w1 _ _
  have b12 := bel_on b1 b2
  have cE := hid (eqs_int R S ao cap bo bcap w2 (hr.on b12) (hs.on b12))
  have c0 := (X1.on b2).cell 0 _ rfl
  have l1 := (X1.on b2).lt
  have d0 := X2.cell 0 _ rfl
  have l2 := X2.lt
  have B := hid b12
  have HW := hid (show w2 = (w.alloc (.cells #[.slice ao R.length cap] 31)).alloc (.cells #[.slice bo S.length bcap] 31) by rw [hw2, hw1])
  have HK1 := hid hk1
  have HK2 := hid (show k2 = w.heap.size + 1 by rw [hk2, hw1]; simp)
  clear hw1 hk1 X1 b1 hw2 hk2 X2 b2 b12 hr hs
  obtain ⟨n, hnn⟩ : ∃ n, n = R.length := ⟨_, rfl⟩
  obtain ⟨m, hmm⟩ : ∃ m, m = S.length := ⟨_, rfl⟩
  rw [← hnn] at cE c0 HW ⊢
  rw [← hmm] at cE d0 HW ⊢
  clear hnn hmm
  go_enter Try.func15, Try.ntmps15
  go_upto_region 1 with fail
  rw [← HW.out, ← HK2.out, ← HK1.out]
  clear HW HK1 HK2
  go_wp2_with fail
  refine cE.out.mono ?_
  rintro e w3 ⟨rfl, b3⟩
  have BF := hid (bel_on B.out b3)
  clear b3 cE
  go_wp2
  go_ret
  exact ⟨rfl, BF.out⟩
theorem row_keep {A B : World} {ao : Option Addr} {len cap : Nat} {xs : List (Rn Int)} (h : Row tRn A ao len cap xs) (k : xs ≠ [] → ∀ ad, ao = some ad → B.heap[ad.block]? = A.heap[ad.block]?) : Row tRn B ao len cap xs :=
  ⟨h.hlen, h.hcap, h.hmax, fun n => by
    obtain ⟨b, o, h1, h2, h3⟩ := h.lie n
    have e := k n _ h1
    refine ⟨b, o, h1, ?_, fun j x hj => ?_⟩
    · rcases Nat.lt_or_ge b B.heap.size with q | q
      · exact q
      · rw [Array.getElem?_eq_none q, Array.getElem?_eq_getElem h2] at e
        cases e
    · obtain ⟨cs, h4, h5⟩ := h3 j x hj
      exact ⟨cs, h4, fun i v hi => (World.cell?_of_block (a := ⟨b, o + j * 3 + i, none⟩) e).trans (h5 i v hi)⟩⟩
theorem cell_lt {A : World} {p : Addr} {v : Value} (h : A.cell? p = some v) : p.block < A.heap.size := by
  rcases Nat.lt_or_ge p.block A.heap.size with k | k
  · exact k
  · unfold World.cell? at h
    rw [Array.getElem?_eq_none k] at h
    simp at h
theorem grown_of {A B : World} (b : Below A.heap.size A B) : A.grownBy B none := ⟨b.os, b.tape, b.output, b.size, fun k hk _ => b.block k hk⟩
/-- What Runs' closure holds: a line. -/
structure Ld (k1 n : Nat) (R : List (Rn Int)) (ao : Option Addr) (cap : Nat) (A : World) : Prop where
  cell : A.cell? ⟨k1, 0, none⟩ = some (.slice ao n cap)
  row : Row tRn A ao n cap R
theorem Ld.on {k1 n : Nat} {R : List (Rn Int)} {ao : Option Addr} {cap : Nat} {A B : World} (h : Ld k1 n R ao cap A) (b : Below A.heap.size A B) : Ld k1 n R ao cap B :=
  ⟨(b.cell (p := ⟨k1, 0, none⟩) (cell_lt h.cell)).trans h.cell, h.row.on b⟩
theorem take_pre {α : Type} {R : List α} {k : Nat} {r : α} (h : R[k]? = some r) : R.take (k + 1) = R.take k ++ [r] := by rw [List.take_add_one, h]; rfl
set_option maxHeartbeats 4000000 in
set_option maxRecDepth 100000 in
theorem runs_in (n0 : Nat) (hn0 : 1 ≤ n0) (l k1 n : Nat) (R : List (Rn Int)) (ao : Option Addr) (cap : Nat) (hN : n = R.length) (hlen : n ≤ 100000) (Kp : World → World → Prop) (hKp : ∀ A B, Kp A B → Ld k1 n R ao cap A → Ld k1 n R ao cap B)
    (J Jx : List (Rn Int) → World → Prop) (W : World) (hJ : AbidesFrom W.heap.size J)
    (hY : ∀ pre x W1, J pre W1 → pre.length < n → YieldAt Fence.wide (n0 - 1) Try.prog l (encR x) W1 fun e W' => (e = .returned (.bool true) ∧ J (pre ++ [x]) W' ∧ Kp W1 W') ∨ (e = .returned (.bool false) ∧ Jx (pre ++ [x]) W'))
    (hH : Ld k1 n R ao cap W) (h0 : J [] W) :
    CallsIn Fence.wide n0 Try.prog 33 #[.func (.yield l) #[] #[], .pointer (some ⟨k1, 0, none⟩)] W fun e W' => (∃ v, e = .returned v) ∧ ((∃ ys, ys = R ∧ J ys W') ∨ (∃ pre, pre <+: R ∧ Jx pre W')) := by
  have hro : Fence.wide.round = none := rfl
  have c1 := hH.cell
  have l1 : k1 < W.heap.size := cell_lt c1
  have lm := hH.row.hmax
  have lc := hH.row.hcap
  have HH := hid hH
  have HN := hid hN
  clear hH hN
  refine callsIn_of_wp Try.func33 rfl trivial ?_ hro
  simp only [Try.ntmps33, List.size_toArray, List.length_cons, List.length_nil, Nat.reduceAdd, Nat.reduceSub, Array.replicate_succ, Array.replicate_zero, List.push_toArray, List.append_toArray, List.nil_append, List.cons_append]
  gi_wp2
  gi_loopw [8] (fun i wr => ∃ (k : Nat), i = .int .i64 (k : Int) ∧ k ≤ n ∧ Hid (J (R.take k) wr) ∧ Hid (Ld k1 n R ao cap wr)) (fun i _ => n - (intOf i).toNat)
  case atStart => exact ⟨0, rfl, Nat.zero_le _, hid h0, HH⟩
  case round =>
    obtain ⟨k, rfl, hk, hJs, hLd⟩ := hrel
    clear c1 l1
    by_cases hlt : k < n
    · obtain ⟨r, hr⟩ : ∃ r, R[k]? = some r := ⟨_, List.getElem?_eq_getElem (by have := HN.out; omega)⟩
      obtain ⟨gb, go, eg, lg, s0, s1, s2, -⟩ := rn_at hLd.out.row hr
      subst eg
      have i0 : (k : Int) < (n : Int) := by omega
      have i2 : (0 : Int) ≤ (k : Int) := by omega
      have bt : Below wr.heap.size wr (wr.alloc (.cells #[.int .i64 r.a, .int .i64 r.b, .int .i64 r.v] 51)) := bel_alloc _ _
      have HJ := hid (hJ _ wr _ none hJs.out (grown_of bt) (fun _ e => by cases e))
      have HT := hid (hLd.out.on bt)
      obtain ⟨fn, tmps, assign, body, hy, hR⟩ := hY (R.take k) r _ HJ.out (by rw [List.length_take]; have := HN.out; omega)
      rw [← take_pre hr] at hR
      dsimp only [encR] at hy
      have HR := hid hR
      clear hR bt hr
      gi_wp2
      refine HR.out.mono ?_
      rintro e W3 (⟨rfl, hJ3, hk3⟩ | ⟨rfl, hJx3⟩)
      · have HT3 := hid (hKp _ _ hk3 HT.out)
        have HJ3 := hid hJ3
        clear hJ3 hk3 HT
        gi_wp2
        go_roundw
        case rel => exact ⟨k + 1, by simp, by omega, HJ3, HT3⟩
        case measure => simp [intOf]; omega
      · gi_wp2
        refine bodyPost_ret (results_none rfl _ _ _) rfl ?_
        exact ⟨⟨_, rfl⟩, .inr ⟨_, List.take_prefix _ _, hJx3⟩⟩
    · have EA : R.take k = R := List.take_of_length_le (by have := HN.out; omega)
      have HJ := hid (show J R wr by have := hJs.out; rw [EA] at this; exact this)
      gi_wp2
      go_end0
      exact ⟨⟨_, rfl⟩, .inl ⟨_, rfl, HJ.out⟩⟩
set_option maxHeartbeats 1600000 in
set_option maxRecDepth 100000 in
theorem runs_int (R : List (Rn Int)) (ao : Option Addr) (cap : Nat) (w : World) (hr : Row tRn w ao R.length cap R) (hn : R.length ≤ 100000) :
    Calls Try.prog 21 #[.agg #[.slice ao R.length cap]] w fun e w' => Below w.heap.size w w' ∧ ∃ (gf : Nat) (lb : Array Value), e = .returned (.func (.func gf) #[] lb) ∧ (∀ args W, (callFunc gf args).run Try.prog W = .ok (.enter gf args) W) ∧
      ∀ (n : Nat), 1 ≤ n → ∀ Kp : World → World → Prop, (∀ A B, Kp A B → KeepL w.heap.size w'.heap.size ao (R ≠ []) A B) → SeqStopsK Fence.wide n Try.prog gf lb encR Kp (fun ys => ys = R) (fun pre => pre <+: R) R.length w' := by
  obtain ⟨w1, hw1⟩ : ∃ W, W = w.alloc (.cells ([.slice ao R.length cap] : List Value).toArray 31) := ⟨_, rfl⟩
  obtain ⟨k1, hk1⟩ : ∃ k, k = w.heap.size := ⟨_, rfl⟩
  have b1 : Below w.heap.size w w1 := by rw [hw1]; exact bel_alloc _ _
  have X1 : Box w1 k1 [.slice ao R.length cap] := by rw [hw1, hk1]; exact Box.new w _ _
  have e1 : w1.heap.size = w.heap.size + 1 := by rw [hw1]; simp
  have HL := hid (⟨X1.cell 0 _ rfl, hr.on b1⟩ : Ld k1 R.length R ao cap w1)
  have HB := hid (show w.heap.size ≤ k1 ∧ k1 < w1.heap.size by omega)
  have B := hid b1
  have HW := hid hw1
  have HK := hid hk1
  clear hw1 hk1 X1 b1 hr e1
  obtain ⟨n, hnn⟩ : ∃ n, n = R.length := ⟨_, rfl⟩
  rw [← hnn] at HL HW hn ⊢
  have HN := hid hnn
  clear hnn
  go_enter Try.func21, Try.ntmps21
  go_upto_region 1 with fail
  rw [← HW.out, ← HK.out]
  clear HW HK
  go_wp2
  go_ret
  refine ⟨B.out, _, _, rfl, enters_of Try.func33 (by kernel_rfl) rfl, fun n0 h1 Kp hKp l J Jx W hW hJ _ hY h0 => ?_⟩
  exact runs_in n0 h1 l k1 n R ao cap HN.out hn Kp (fun A B' k h => ⟨(World.cell?_of_block (a := ⟨k1, 0, none⟩) (hKp _ _ k k1 (.inl HB.out))).trans h.cell, row_keep h.row fun hne ad e => hKp _ _ k ad.block (.inr ⟨hne, ad, e, rfl⟩)⟩) J Jx W hJ hY (HL.out.on hW) h0
end Go.Proofs.Ytemjmdfmcblgnaa.Li
/- Package line: what the laws of layer 14 ask of it. -/
namespace Go.Proofs.Ytemjmdfmcblgnaa.Li
open Go.RowKit Go.Sort Go.Shelf P Mm R6 R14 L14
theorem lno : LnO := ⟨
  fun k l ao cap w hl h1 h2 h3 => of_int k l ao cap w hl h1 h2 h3 (rn_ok h1 h2 (by omega) (row_vals hl)) (fun i => rn_ok h1 h2 (by rw [List.length_take]; omega) (fun v hv => row_vals hl v (List.take_subset _ _ hv))),
  fun k l ao cap w hr hp => span_int (runsF k l) ao cap w hr hp.2.2.2.2,
  fun k l ao cap w hr hp => runs_int (runsF k l) ao cap w hr hp.2.2.2.2,
  fun k l ao cap k' l' bo bcap w hr _ hr' _ => equal_int (runsF k l) (runsF k' l') ao cap bo bcap w hr hr'⟩
end Go.Proofs.Ytemjmdfmcblgnaa.Li
/- Groups lie one behind the other (layer 15), as plain data. No program is named here. -/
namespace Go.Proofs.Ytemjmdfmcblgnaa.P
open Go.RowKit Mm
/-- Neighbours among plateaus: the next one begins above, and is unlike. -/
def Adj (rs : List (Rn Int)) : Prop := ∀ (i : Nat) (x y : Rn Int), rs[i]? = some x → rs[i + 1]? = some y → x.a < y.a ∧ x.v ≠ y.v
theorem adj_chain : ∀ (rs : List (Rn Int)) (k : Int), chainR k rs → Adj rs
  | [], _, _, _, _, _, h, _ => by simp at h
  | r :: rs, k, ⟨c1, c2, c3, c4⟩, i, x, y, hx, hy => by
    cases i with
    | zero =>
      obtain rfl : r = x := by simpa using hx
      have hy : rs[0]? = some y := by simpa using hy
      cases rs with
      | nil => simp at hy
      | cons z t =>
        obtain rfl : z = y := by simpa using hy
        exact ⟨by have := c4.1; omega, fun e => c3 z rfl e.symm⟩
    | succ i => exact adj_chain rs _ c4 i x y (by simpa using hx) (by simpa using hy)
theorem Adj.drop {rs : List (Rn Int)} (h : Adj rs) (n : Nat) : Adj (rs.drop n) := fun i x y hx hy => by
  rw [List.getElem?_drop] at hx hy
  exact h (n + i) x y hx (by rw [show n + i + 1 = n + (i + 1) by omega]; exact hy)
/-- What CurveGroups asks of groups, from a number on. -/
def okG (l : List Int) : Int → List Gp → Prop
  | _, [] => True
  | A, g :: gs => A ≤ g.f ∧ 0 ≤ g.f ∧ (g.c = 1 ∧ g.w = 0 ∧ g.r = 0 ∧ gs = [] ∨ 2 ≤ g.c ∧ 1 ≤ g.w ∧ g.r ≠ 0) ∧ (∀ k : Nat, (k : Int) < g.c → 0 ≤ g.f + k * g.w ∧ l[(g.f + k * g.w).toNat]? = some (g.v + k * g.r)) ∧ okG l (g.f + (g.c - 1) * g.w + 1) gs
theorem okG_grp (l : List Int) : ∀ (n : Nat) (rs : List (Rn Int)) (A : Int), rs.length ≤ n → Adj rs → (∀ r ∈ rs, 0 ≤ r.a ∧ l[r.a.toNat]? = some r.v) → (∀ r, rs[0]? = some r → A ≤ r.a) → okG l A (grp rs)
  | 0, rs, A, h, _, _, _ => by
    obtain rfl : rs = [] := List.eq_nil_of_length_eq_zero (by omega)
    trivial
  | _ + 1, [], _, _, _, _, _ => trivial
  | _ + 1, [p], A, _, _, hl, hA => by
    obtain ⟨p0, p1⟩ := hl p (List.mem_cons_self ..)
    rw [grp_one]
    refine ⟨hA p rfl, p0, .inl ⟨rfl, rfl, rfl, rfl⟩, fun k hk => ?_, trivial⟩
    have hk : (k : Int) < 1 := hk
    obtain rfl : k = 0 := by omega
    show 0 ≤ p.a + ((0 : Nat) : Int) * 0 ∧ l[(p.a + ((0 : Nat) : Int) * 0).toNat]? = some (p.v + ((0 : Nat) : Int) * 0)
    rw [Int.mul_zero, Int.add_zero, Int.add_zero]
    exact ⟨p0, p1⟩
  | n + 1, p :: q :: t, A, h, hd, hl, hA => by
    rw [List.length_cons, List.length_cons] at h
    obtain ⟨p0, p1⟩ := hl p (List.mem_cons_self ..)
    obtain ⟨q0, q1⟩ := hl q (List.mem_cons_of_mem _ (List.mem_cons_self ..))
    obtain ⟨d1, d2⟩ := hd 0 p q rfl rfl
    obtain ⟨w, hw⟩ : ∃ w, w = q.a - p.a := ⟨_, rfl⟩
    obtain ⟨r, hr⟩ : ∃ r, r = q.v - p.v := ⟨_, rfl⟩
    rw [grp_two, ← hw, ← hr]
    have hK := extN_le w r t q.a q.v
    have hG := extN_get (w := w) (r := r) t q.a q.v
    obtain ⟨K, eK⟩ : ∃ K, K = extN w r q.a q.v t := ⟨_, rfl⟩
    rw [← eK] at hK hG ⊢
    have AT : ∀ (j : Nat) (z : Rn Int), j < K + 2 → (p :: q :: t)[j]? = some z → z.a = p.a + (j : Int) * w ∧ z.v = p.v + (j : Int) * r := fun j z hj hz => by
      match j, hz with
      | 0, hz =>
        obtain rfl : p = z := by simpa using hz
        simp
      | 1, hz =>
        obtain rfl : q = z := by simpa using hz
        simp only [Int.natCast_one, Int.one_mul]
        omega
      | j + 2, hz =>
        obtain ⟨a1, a2⟩ := hG j z (by omega) (by simpa using hz)
        rw [a1, a2]
        rw [show ((j + 2 : Nat) : Int) = (j : Int) + 1 + 1 by omega, Int.add_mul _ 1 w, Int.add_mul _ 1 r, Int.one_mul, Int.one_mul, Int.mul_comm w, Int.mul_comm r]
        omega
    have HAVE : ∀ j, j < K + 2 → ∃ z, (p :: q :: t)[j]? = some z := fun j hj => ⟨_, List.getElem?_eq_getElem (by rw [List.length_cons, List.length_cons]; omega)⟩
    refine ⟨hA p rfl, p0, .inr ⟨by show 2 ≤ (K : Int) + 2; omega, by show 1 ≤ w; omega, by show r ≠ 0; omega⟩, fun k hk => ?_, ?_⟩
    · have hk : (k : Int) < (K : Int) + 2 := hk
      obtain ⟨z, hz⟩ := HAVE k (by omega)
      obtain ⟨z1, z2⟩ := AT k z (by omega) hz
      obtain ⟨y1, y2⟩ := hl z (List.mem_of_getElem? hz)
      show 0 ≤ p.a + (k : Int) * w ∧ l[(p.a + (k : Int) * w).toNat]? = some (p.v + (k : Int) * r)
      rw [← z1, ← z2]
      exact ⟨y1, y2⟩
    · have hd2 : Adj (t.drop K) := by
        have := Adj.drop hd (K + 2)
        rwa [show (p :: q :: t).drop (K + 2) = t.drop K from rfl] at this
      refine okG_grp l n (t.drop K) _ (by rw [List.length_drop]; omega) hd2 (fun z hz => hl z (List.mem_cons_of_mem _ (List.mem_cons_of_mem _ (List.mem_of_mem_drop hz)))) (fun z hz => ?_)
      obtain ⟨y, hy⟩ := HAVE (K + 1) (by omega)
      obtain ⟨y1, -⟩ := AT (K + 1) y (by omega) hy
      have hz2 : (p :: q :: t)[K + 1 + 1]? = some z := by
        rw [List.getElem?_drop] at hz
        simpa using hz
      have := (hd (K + 1) y z hy hz2).1
      show p.a + ((K : Int) + 2 - 1) * w + 1 ≤ z.a
      rw [show ((K + 1 : Nat) : Int) = (K : Int) + 2 - 1 by omega] at y1
      omega
theorem okG_cur {l : List Int} (hv : ∀ r ∈ runsF 0 l, l[(r.a - 0).toNat]? = some r.v) : okG l 0 (curG l) := by
  refine okG_grp l _ _ 0 (Nat.le_refl _) (adj_chain _ _ (chain_runs l 0)) (fun r hr => ?_) (fun r hr => (runs_in l 0 r (List.mem_of_getElem? hr)).1)
  have h := hv r hr
  rw [Int.sub_zero] at h
  exact ⟨(runs_in l 0 r hr).1, h⟩
end Go.Proofs.Ytemjmdfmcblgnaa.P

/- The document's numbers of a curve of numbers (poundageref15.List), and that it can be (Good). -/
import Derived.Test.YtemjmdfmcblgnaaJCu3
import Derived.Test.YtemjmdfmcblgnaaJCurR
namespace Go.Proofs.Ytemjmdfmcblgnaa.P
end Go.Proofs.Ytemjmdfmcblgnaa.P
namespace Go.Proofs.Ytemjmdfmcblgnaa.Mm
end Go.Proofs.Ytemjmdfmcblgnaa.Mm
namespace Go.Proofs.Ytemjmdfmcblgnaa.R6
end Go.Proofs.Ytemjmdfmcblgnaa.R6
namespace Go.Proofs.Ytemjmdfmcblgnaa.R14
end Go.Proofs.Ytemjmdfmcblgnaa.R14
namespace Go.Proofs.Ytemjmdfmcblgnaa.L14
end Go.Proofs.Ytemjmdfmcblgnaa.L14
namespace Go.Proofs.Ytemjmdfmcblgnaa.R15
open Go.RowKit Go.Sort P Mm R6 R14
theorem eqC_refl (m : Int) (a : List Gp) : eqC m a m a = true := by unfold eqC; rw [decide_eq_true rfl, decide_eq_true rfl]; rfl
theorem grp_len : ∀ (n : Nat) (rs : List (Rn Int)), rs.length ≤ n → (grp rs).length ≤ rs.length
  | 0, rs, h => by
    obtain rfl : rs = [] := List.eq_nil_of_length_eq_zero (by omega)
    exact Nat.le_refl _
  | _ + 1, [], _ => Nat.le_refl _
  | _ + 1, [p], _ => Nat.le_refl _
  | n + 1, p :: q :: l, h => by
    rw [List.length_cons, List.length_cons] at h
    have ih := grp_len n (l.drop (extN (q.a - p.a) (q.v - p.v) q.a q.v l)) (by rw [List.length_drop]; omega)
    rw [List.length_drop] at ih
    rw [grp_two, List.length_cons, List.length_cons, List.length_cons]
    omega
theorem cur_len (l : List Int) : (curG l).length ≤ l.length := by
  have h1 := grp_len _ (runsF 0 l) (Nat.le_refl _)
  have h2 := runs_len l 0
  unfold curG
  omega
theorem cur_vals {l : List Int} (h : curB l = true) : 0 < l.length ∧ l.length ≤ 2001 ∧ ∀ v ∈ l, -2305843009213693952 ≤ v ∧ v ≤ 2305843009213693952 := by
  unfold curB at h
  simp only [Bool.and_eq_true, decide_eq_true_eq, Bool.not_eq_true'] at h
  obtain ⟨⟨h1, h2⟩, h3⟩ := h
  refine ⟨h1, h2, fun v hv => ?_⟩
  have a5 := List.any_eq_false.1 h3 v hv
  unfold bigB at a5
  simp only [Bool.or_eq_true, decide_eq_true_eq, not_or] at a5
  omega
theorem num_at {l : List Int} {q : Nat} {v : Int} (h : curB l = true) (hv : l[q]? = some v) : rN ((l.length : Int) - 1) (curG l) q = v := by
  obtain ⟨hq, -⟩ := List.getElem?_eq_some_iff.1 hv
  have hb := (cur_vals h).2.2 v (List.mem_of_getElem? hv)
  unfold rN
  rw [if_pos (by omega), cur_at (by omega) (by omega)]
  simp only [Int.toNat_natCast, hv]
  exact wrap_l (by unfold I64; show -9223372036854775808 ≤ v ∧ v ≤ 9223372036854775807; omega)
set_option maxHeartbeats 4000000 in
set_option maxRecDepth 100000 in
theorem list_num (l : List Int) (hc : curB l = true) (ao : Option Addr) (cap : Nat) (w : World) (hl : Row tGp w ao (curG l).length cap (curG l)) :
    Calls Try.prog 30 #[.agg #[.int .i64 ((l.length : Int) - 1), .slice ao (curG l).length cap]] w fun e w' => (∃ ao' cap', e = .returned (.slice ao' l.length cap') ∧ Row tInt w' ao' l.length cap' l) ∧ Below w.heap.size w w' := by
  obtain ⟨n0, n1, vb⟩ := cur_vals hc
  have LW := hid (cur_low hc)
  have NA := hid (fun (q : Nat) (v : Int) (hv : l[q]? = some v) => num_at hc hv)
  obtain ⟨m, hm⟩ : ∃ m, m = (l.length : Int) - 1 := ⟨_, rfl⟩
  obtain ⟨G, hG⟩ : ∃ G, G = curG l := ⟨_, rfl⟩
  rw [← hm, ← hG] at NA ⊢
  rw [← hG] at hl LW
  obtain ⟨w1, hw1⟩ : ∃ W, W = w.alloc (.cells ([.int .i64 m, .slice ao G.length cap] : List Value).toArray 26) := ⟨_, rfl⟩
  obtain ⟨k1, hk1⟩ : ∃ k, k = w.heap.size := ⟨_, rfl⟩
  have b1 : Below w.heap.size w w1 := by rw [hw1]; exact bel_alloc _ _
  have X1 : Box w1 k1 [.int .i64 m, .slice ao G.length cap] := by rw [hw1, hk1]; exact Box.new w _ _
  have HX := hid (fun (W : World) (k : Below w1.heap.size w1 W) => (⟨X1.on k, hl.on (bel_on b1 k), bel_on b1 k⟩ : Box W k1 [.int .i64 m, .slice ao G.length cap] ∧ Row tGp W ao G.length cap G ∧ Below w.heap.size w W))
  have B0 := hid (Below.refl w1.heap.size w1)
  have lm := hl.hmax
  have lc := hl.hcap
  have HM := hid hm
  have VB := hid (show ∀ v ∈ l, I64 v from fun v hv => by have := vb v hv; unfold I64; omega)
  have HW := hid hw1
  have HK := hid hk1
  obtain ⟨i0, hi0, hz0, hz1, hz2⟩ := info_parts R14.info_int
  clear hw1 hk1 X1 b1 hl hm hG hc vb
  go_enter Try.func30, Try.ntmps30
  go_upto_region 1 with fail
  rw [← HW.out, ← HK.out]
  clear HW HK
  go_wp2
  go_loopw [3, 4] (fun v i wr => ∃ (V : Value) (q : Nat), v = V ∧ i = .int .i64 (q : Int) ∧ q ≤ l.length ∧ Hid (wr.ownsRow w1.heap.size 3 1 V q ((l.take q).flatMap intC)) ∧ Hid (Below w1.heap.size w1 wr)) (fun _ i _ => l.length - (intOf i).toNat)
  case atStart => exact ⟨_, 0, rfl, rfl, Nat.zero_le _, hid (World.ownsRow_nil _ _ _ _), B0⟩
  case round =>
    obtain ⟨V, q, rfl, rfl, hq, hO, hb⟩ := hrel
    clear B0
    obtain ⟨Y, RY, bY⟩ := HX.out wr hb.out
    have d0 := Y.cell 0 _ rfl; have d1 := Y.cell 1 _ rfl; have l1 := Y.lt
    by_cases hlt : q < l.length
    · obtain ⟨v, hv⟩ : ∃ v, l[q]? = some v := ⟨_, List.getElem?_eq_getElem hlt⟩
      have z1 : decide ((q : Int) ≤ m) = true := decide_eq_true (by have := HM.out; omega)
      have cA := at_any m G ao cap (q : Int) wr RY LW.out (by unfold I64; omega)
      rw [NA.out q v hv] at cA
      have cA := hid cA
      have TK := hid (show (l.take (q + 1)).flatMap intC = (l.take q).flatMap intC ++ intC v by rw [List.take_add_one, hv, List.flatMap_append]; rfl)
      clear Y RY bY hv
      go_wp2_with fail
      refine cA.out.mono ?_
      rintro e w5 ⟨rfl, b5⟩
      have B5 := hid (bel_on hb.out b5)
      have oo := owns_on hO.out b5
      have hsz := B5.out.size
      clear cA b5 hO hb NA LW
      go_wp2_with (at_builtin; refine wpList_append_own _ rfl _ _ 22 rfl w1.heap.size 3 i0 (.int .i64 0) 1 8 Try.underlying22 hi0 hz0 hz1 hz2 rfl (by decide) _ _ _ rfl (oo.alloc _) ⟨w5.heap.size, 0, none⟩ 1 1 (intC v) rfl rfl (news_at w5 (intC v) _) (by simp [intC, Value.oneCell']) (by unfold maxLen; omega) (by omega) (by simp; omega) ?_)
      intro v6 w6 hown hgrow _
      have B6 := hid ((B5.out.alloc hsz _).grown hgrow (B5.out.alloc hsz _).size (fun j hj => (oo.lt j hj).1))
      have O6 := hid (show w6.ownsRow w1.heap.size 3 1 v6 (q + 1) ((l.take (q + 1)).flatMap intC) by rw [TK.out]; exact hown)
      have wq : IntKind.i64.wrap ((q : Int) + 1) = (q : Int) + 1 := wrap_l (by unfold I64; omega)
      clear hown hgrow oo B5 TK d0 d1 l1
      go_wp2
      go_roundw
      case rel => exact ⟨v6, q + 1, rfl, by simp, by omega, O6, B6⟩
      case measure => simp [intOf]; omega
    · obtain rfl : q = l.length := by omega
      have z1 : decide ((l.length : Int) ≤ m) = false := decide_eq_false (by have := HM.out; omega)
      have oV := hO.out
      rw [List.take_length] at oV
      obtain ⟨sa, sc, e, RS⟩ := row_own (n := 1) (cells := intC) (ok := I64) (hn := fun _ => rfl) oV VB.out
      subst e
      have RS := hid RS
      have BZ := hid bY
      clear Y RY bY hO hb oV NA LW
      go_wp2
      go_ret
      exact ⟨⟨sa, sc, rfl, RS.out⟩, BZ.out⟩
end Go.Proofs.Ytemjmdfmcblgnaa.R15
/- A curve of numbers can be (poundageref15.Good). -/
namespace Go.Proofs.Ytemjmdfmcblgnaa.R15
open Go.RowKit Go.Sort P Mm R6 R14
theorem runs_hd {l : List Int} (h : 0 < l.length) (k : Int) : ∃ p t, runsF k l = p :: t ∧ p.a = k := by
  cases l with
  | nil => exact absurd h (by simp)
  | cons v l =>
    unfold runsF
    split
    · exact ⟨_, _, rfl, rfl⟩
    · split <;> exact ⟨_, _, rfl, rfl⟩
theorem cur_hd {l : List Int} (h : 0 < l.length) : ∃ g, (curG l)[0]? = some g ∧ g.f = 0 := by
  obtain ⟨p, t, e, h0⟩ := runs_hd h 0
  unfold curG
  rw [e]
  cases t with
  | nil => exact ⟨_, rfl, h0⟩
  | cons q t =>
    rw [grp_two]
    exact ⟨_, rfl, h0⟩
set_option maxHeartbeats 4000000 in
set_option maxRecDepth 100000 in
theorem good_num (l : List Int) (hc : curB l = true) (ao : Option Addr) (cap : Nat) (w : World) (hl : Row tGp w ao (curG l).length cap (curG l)) :
    Calls Try.prog 17 #[.agg #[.int .i64 ((l.length : Int) - 1), .slice ao (curG l).length cap]] w fun e w' => e = .returned (.bool true) ∧ Below w.heap.size w w' := by
  obtain ⟨n0, n1, -⟩ := cur_vals hc
  obtain ⟨g, hg, g0⟩ := cur_hd n0
  have cl := cur_len l
  have cL := fun (W : World) (b : Below w.heap.size w W) => list_num l hc ao cap W (hl.on b)
  have cO := hid (fun a2 c2 W h => of_any l a2 c2 W h)
  have oy := o_yes hc
  rw [oy.1, oy.2, hc] at cO
  have cS := fun a2 c2 a3 c3 W h1 h2 => same_any ((l.length : Int) - 1) (curG l) a2 c2 ((l.length : Int) - 1) (curG l) a3 c3 W h1 h2
  rw [eqC_refl] at cS
  obtain ⟨m, hm⟩ : ∃ m, m = (l.length : Int) - 1 := ⟨_, rfl⟩
  obtain ⟨G, hG⟩ : ∃ G, G = curG l := ⟨_, rfl⟩
  rw [← hm, ← hG] at cL cO cS ⊢
  rw [← hG] at hl hg cl
  have cL := hid cL; have cS := hid cS
  obtain ⟨w1, hw1⟩ : ∃ W, W = w.alloc (.cells ([.int .i64 m, .slice ao G.length cap] : List Value).toArray 26) := ⟨_, rfl⟩
  obtain ⟨k1, hk1⟩ : ∃ k, k = w.heap.size := ⟨_, rfl⟩
  have b1 : Below w.heap.size w w1 := by rw [hw1]; exact bel_alloc _ _
  have X1 : Box w1 k1 [.int .i64 m, .slice ao G.length cap] := by rw [hw1, hk1]; exact Box.new w _ _
  obtain ⟨gb, go', eg, -, y0, -⟩ := gp_at (hl.on b1) hg
  have hln : 0 < G.length := (List.getElem?_eq_some_iff.1 hg).1
  subst eg
  rw [g0] at y0
  simp only [Nat.zero_mul, Nat.add_zero] at y0
  have HX := hid (fun (W : World) (k : Below w1.heap.size w1 W) => (⟨X1.on k, hl.on (bel_on b1 k), bel_on b1 k⟩ : Box W k1 [.int .i64 m, .slice (some ⟨gb, go', none⟩) G.length cap] ∧ Row tGp W (some ⟨gb, go', none⟩) G.length cap G ∧ Below w.heap.size w W))
  have B0 := hid (Below.refl w1.heap.size w1)
  have lm := hl.hmax
  have lc := hl.hcap
  have HW := hid hw1
  have HK := hid hk1
  have c0 := X1.cell 0 _ rfl
  have c1 := X1.cell 1 _ rfl
  have l1 := X1.lt
  have z1 : decide (m < 0) = false := decide_eq_false (by omega)
  have z2 : decide (2000 < m) = false := decide_eq_false (by omega)
  have z3 : ((G.length : Int) == 0) = false := by rw [beq_eq_false_iff_ne]; omega
  have wm : IntKind.i64.wrap (m + 1) = m + 1 := wrap_l (by unfold I64; omega)
  have z4 : decide (m + 1 < (G.length : Int)) = false := decide_eq_false (by omega)
  have z5 : (0 : Int) < (G.length : Int) := by omega
  clear hw1 hk1 X1 b1 hl hm hG hc g0 hg oy
  go_enter Try.func17, Try.ntmps17
  go_upto_region 1 with fail
  rw [← HW.out, ← HK.out]
  clear HW HK
  go_wp2_with fail
  refine (cL.out w1 (HX.out w1 B0.out).2.2).mono ?_
  rintro e w2 ⟨⟨a2, c2, rfl, R2⟩, b2⟩
  have B2 := hid (bel_on B0.out b2)
  have R2 := hid R2
  clear b2 cL y0 c0 c1 l1 B0
  go_wp2_with fail
  refine (cO.out a2 c2 w2 R2.out).mono ?_
  rintro e w3 ⟨⟨a3, c3, rfl, R3⟩, b3⟩
  obtain ⟨w4, hw4⟩ : ∃ W, W = w3.alloc (.cells #[.int .i64 m, .slice a3 G.length c3] 26) := ⟨_, rfl⟩
  obtain ⟨k4, hk4⟩ : ∃ k, k = w3.heap.size := ⟨_, rfl⟩
  have b34 : Below w3.heap.size w3 w4 := by rw [hw4]; exact bel_alloc _ _
  have X4 : Box w4 k4 [.int .i64 m, .slice a3 G.length c3] := by rw [hw4, hk4]; exact Box.new w3 [.int .i64 m, .slice a3 G.length c3] _
  have B4 := hid (bel_on (bel_on B2.out b3) b34)
  have R4 := hid (R3.on b34)
  have HX4 := hid X4
  have HW := hid hw4
  have HK := hid hk4
  clear b3 R3 cO R2 B2 hw4 hk4 b34 X4
  go_upto_region 4 with fail
  rw [← HW.out, ← HK.out]
  clear HW HK
  obtain ⟨Y, RY, bY⟩ := HX.out w4 B4.out
  have d0 := Y.cell 0 _ rfl; have d1 := Y.cell 1 _ rfl; have l4 := Y.lt
  have e0 := HX4.out.cell 0 _ rfl; have e1 := HX4.out.cell 1 _ rfl; have l5 := HX4.out.lt
  have cZ := hid (cS.out _ cap a3 c3 w4 RY R4.out)
  have BY := hid bY
  clear Y RY bY cS R4 HX4 B4
  go_wp2_with fail
  refine cZ.out.mono ?_
  rintro e w5 ⟨rfl, b5⟩
  have B5 := hid (bel_on BY.out b5)
  clear cZ b5 BY d0 d1 l4 e0 e1 l5
  go_wp2
  go_ret
  exact ⟨rfl, B5.out⟩
end Go.Proofs.Ytemjmdfmcblgnaa.R15
/- CurveBack (layer 15): a line of a curve is the line again, and the curve can be. -/
namespace Go.Proofs.Ytemjmdfmcblgnaa.L15
open Go.RowKit Go.Sort P Mm R6 R14 L14
set_option maxHeartbeats 4000000 in
set_option maxRecDepth 100000 in
theorem back_walk (S : LnO) (C : Cu) (l : List Int) (ao : Option Addr) (cap : Nat) (w : World) (hl : Row tInt w ao l.length cap l) :
    Calls Try.prog 4 #[.slice ao l.length cap] w fun e w' => e = .returned (.bool true) ∧ Below w.heap.size w w' := by
  have cA := hid (alive_any S C w)
  have lm := hl.hmax
  have lc := hl.hcap
  have HL := hid (fun (W : World) (b : Below w.heap.size w W) => hl.on b)
  have HV := hid (row_vals hl)
  clear hl
  go_enter Try.func4, Try.ntmps4
  go_wp2_with fail
  refine cA.out.mono ?_
  rintro e w1 ⟨rfl, b1⟩
  have B1 := hid b1
  clear b1 cA
  by_cases h1 : 2001 < l.length
  · have z1 : decide ((2001 : Int) < (l.length : Int)) = true := decide_eq_true (by omega)
    go_wp2
    go_ret
    exact ⟨rfl, B1.out⟩
  have z1 : decide ((2001 : Int) < (l.length : Int)) = false := decide_eq_false (by omega)
  have hp : Ply 0 l := ply_of (by decide) (by decide) (by omega) HV.out
  have cO := fun (W : World) (b : Below w.heap.size w W) => S.of 0 l ao cap W (HL.out W b) (by decide) (by decide) (by omega)
  have cC := fun a2 c2 W h => C.of 0 l a2 c2 W h hp (by omega)
  have cE := fun a2 c2 a3 c3 W h1 h2 => S.equal 0 l a2 c2 0 l a3 c3 W h1 hp h2 hp
  rw [decide_eq_true rfl] at cE
  unfold ofM ofG at cC
  rw [ofB_0] at cC
  have cN := fun (h : curB l = true) a2 c2 W r => C.line l a2 c2 W r h
  have cG := fun (h : curB l = true) a2 c2 W r => C.good l a2 c2 W r h
  have cD := fun (h : curB l = true) a2 c2 W r => R15.good_num l h a2 c2 W r
  obtain ⟨R1, hR1⟩ : ∃ R, R = runsF 0 l := ⟨_, rfl⟩
  rw [← hR1] at cO cC cE cN
  obtain ⟨N1, hN1⟩ : ∃ N, N = R1.length := ⟨_, rfl⟩
  rw [← hN1] at cO cC cE cN
  obtain ⟨G, hG⟩ : ∃ G, G = curG l := ⟨_, rfl⟩
  rw [← hG] at cC cN cG cD
  obtain ⟨m, hm⟩ : ∃ m, m = (l.length : Int) - 1 := ⟨_, rfl⟩
  rw [← hm] at cC cN cG cD
  obtain ⟨Q, hQ⟩ : ∃ Q, Q = curB l := ⟨_, rfl⟩
  rw [← hQ] at cC cN cG cD
  have cO := hid cO
  clear hp hR1 hN1 hG hm hQ h1 lm lc
  go_wp2_with fail
  refine (cO.out w1 B1.out).mono ?_
  rintro e w2 ⟨⟨a2, c2, rfl, r2⟩, b2⟩
  obtain ⟨w3, hw3⟩ : ∃ W, W = w2.alloc (.cells #[.slice a2 N1 c2] 31) := ⟨_, rfl⟩
  obtain ⟨k3, hk3⟩ : ∃ k, k = w2.heap.size := ⟨_, rfl⟩
  have b23 : Below w2.heap.size w2 w3 := by rw [hw3]; exact bel_alloc _ _
  have X3 : Box w3 k3 [.slice a2 N1 c2] := by rw [hw3, hk3]; exact Box.new w2 [.slice a2 N1 c2] _
  have B3 := hid (bel_on (bel_on B1.out b2) b23)
  have R3 := hid (r2.on b23)
  have HX3 := hid X3
  have x3 := X3.cell 0 _ rfl; have l3 := X3.lt
  have HW := hid hw3
  have HK := hid hk3
  clear b2 r2 cO B1 hw3 hk3 b23 X3
  go_upto_region 6 with fail
  rw [← HW.out, ← HK.out]
  clear HW HK
  have cC1 := hid (cC a2 c2 w3 R3.out)
  cases Q with
  | false =>
    clear cN cG cD cE cC
    have cC1 := hid (show Calls Try.prog 9 #[.agg #[.slice a2 N1 c2]] w3 fun e w' => (∃ ao' cap', e = .returned (.tuple #[.agg #[.int .i64 0, .slice ao' 0 cap'], .bool false]) ∧ Row tGp w' ao' 0 cap' []) ∧ Below w3.heap.size w3 w' from cC1.out)
    go_wp2_with fail
    refine cC1.out.mono ?_
    rintro e w4 ⟨⟨a4, c4, rfl, r4⟩, b4⟩
    have B4 := hid (bel_on (bel_on B3.out b4) (bel_alloc w4 (.cells #[.int .i64 0, .slice a4 0 c4] 26)))
    clear cC1 r4 b4 x3 l3
    go_wp2
    go_ret
    exact ⟨rfl, B4.out⟩
  | true =>
    have qN := hid (cN rfl); have qG := hid (cG rfl); have qD := hid (cD rfl); have qE := hid cE
    clear cN cG cD cE
    have cC1 := hid (show Calls Try.prog 9 #[.agg #[.slice a2 N1 c2]] w3 fun e w' => (∃ ao' cap', e = .returned (.tuple #[.agg #[.int .i64 m, .slice ao' G.length cap'], .bool true]) ∧ Row tGp w' ao' G.length cap' G) ∧ Below w3.heap.size w3 w' from cC1.out)
    clear cC
    go_wp2_with fail
    refine cC1.out.mono ?_
    rintro e w4 ⟨⟨a4, c4, rfl, r4⟩, b4⟩
    obtain ⟨w5, hw5⟩ : ∃ W, W = w4.alloc (.cells #[.int .i64 m, .slice a4 G.length c4] 26) := ⟨_, rfl⟩
    obtain ⟨k5, hk5⟩ : ∃ k, k = w4.heap.size := ⟨_, rfl⟩
    have b45 : Below w4.heap.size w4 w5 := by rw [hw5]; exact bel_alloc _ _
    have X5 : Box w5 k5 [.int .i64 m, .slice a4 G.length c4] := by rw [hw5, hk5]; exact Box.new w4 [.int .i64 m, .slice a4 G.length c4] _
    have b35 := bel_on b4 b45
    have HX := hid (fun (W : World) (b : Below w5.heap.size w5 W) => (⟨HX3.out.on (bel_on b35 b), R3.out.on (bel_on b35 b), X5.on b, (r4.on b45).on b, bel_on (bel_on B3.out b35) b⟩ : Box W k3 [.slice a2 N1 c2] ∧ Row tRn W a2 N1 c2 R1 ∧ Box W k5 [.int .i64 m, .slice a4 G.length c4] ∧ Row tGp W a4 G.length c4 G ∧ Below w.heap.size w W))
    have B5 := hid (Below.refl w5.heap.size w5)
    have x0 := X5.cell 0 _ rfl; have x1 := X5.cell 1 _ rfl; have l5 := X5.lt
    have HW := hid hw5
    have HK := hid hk5
    have cN1 := hid (qN.out a4 c4 w5 (r4.on b45))
    clear cC1 r4 b4 x3 l3 HX3 R3 B3 hw5 hk5 b45 X5 b35 qN
    go_upto_region 9 with fail
    rw [← HW.out, ← HK.out]
    clear HW HK
    go_wp2_with fail
    refine cN1.out.mono ?_
    rintro e w6 ⟨⟨a6, c6, rfl, r6⟩, b6⟩
    obtain ⟨w7, hw7⟩ : ∃ W, W = w6.alloc (.cells #[.slice a6 N1 c6] 31) := ⟨_, rfl⟩
    obtain ⟨k7, hk7⟩ : ∃ k, k = w6.heap.size := ⟨_, rfl⟩
    have b67 : Below w6.heap.size w6 w7 := by rw [hw7]; exact bel_alloc _ _
    have X7 : Box w7 k7 [.slice a6 N1 c6] := by rw [hw7, hk7]; exact Box.new w6 [.slice a6 N1 c6] _
    have B7 := hid (bel_on (bel_on B5.out b6) b67)
    have HW := hid hw7
    have HK := hid hk7
    have R7 := hid (r6.on b67)
    have y0 := X7.cell 0 _ rfl; have l7 := X7.lt
    clear cN1 r6 b6 x0 x1 l5 B5 hw7 hk7 b67 X7
    go_upto_region 10 with fail
    rw [← HW.out, ← HK.out]
    clear HW HK
    obtain ⟨p1, p2, p3, p4, p5⟩ := HX.out w7 B7.out
    have x0 := p1.cell 0 _ rfl; have l1 := p1.lt
    have cE1 := hid (qE.out a2 c2 a6 c6 w7 p2 R7.out)
    clear p1 p2 p3 p4 p5 qE R7
    go_wp2_with fail
    refine cE1.out.mono ?_
    rintro e w8 ⟨rfl, b8⟩
    have B8 := hid (bel_on B7.out b8)
    clear cE1 b8 x0 l1 y0 l7 B7
    obtain ⟨p1, p2, p3, p4, p5⟩ := HX.out w8 B8.out
    have x0 := p3.cell 0 _ rfl; have x1 := p3.cell 1 _ rfl; have l1 := p3.lt
    have cG1 := hid (qG.out a4 c4 w8 p4)
    clear p1 p2 p3 p4 p5 qG
    go_wp2_with fail
    refine cG1.out.mono ?_
    rintro e w9 ⟨rfl, b9⟩
    have B9 := hid (bel_on B8.out b9)
    clear cG1 b9 x0 x1 l1 B8
    obtain ⟨p1, p2, p3, p4, p5⟩ := HX.out w9 B9.out
    have x0 := p3.cell 0 _ rfl; have x1 := p3.cell 1 _ rfl; have l1 := p3.lt
    have cD1 := hid (qD.out a4 c4 w9 p4)
    clear p1 p2 p3 p4 p5 qD
    go_wp2_with fail
    refine cD1.out.mono ?_
    rintro e wa ⟨rfl, ba⟩
    have BA := hid (HX.out wa (bel_on B9.out ba)).2.2.2.2
    clear cD1 ba x0 x1 l1 B9 HX
    go_wp2
    go_ret
    exact ⟨rfl, BA.out⟩
end Go.Proofs.Ytemjmdfmcblgnaa.L15

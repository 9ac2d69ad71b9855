/- LineMaps (layer 14). -/
import Derived.Test.YtghhnimimccpoaaJL14f
import Derived.Test.YtghhnimimccpoaaJL14b
import Derived.Maps.AppendAt
namespace Go.Proofs.Ytghhnimimccpoaa.P
end Go.Proofs.Ytghhnimimccpoaa.P
namespace Go.Proofs.Ytghhnimimccpoaa.Mm
end Go.Proofs.Ytghhnimimccpoaa.Mm
namespace Go.Proofs.Ytghhnimimccpoaa.R6
end Go.Proofs.Ytghhnimimccpoaa.R6
namespace Go.Proofs.Ytghhnimimccpoaa.R14
end Go.Proofs.Ytghhnimimccpoaa.R14
namespace Go.Proofs.Ytghhnimimccpoaa.L14
end Go.Proofs.Ytghhnimimccpoaa.L14
namespace Go.Proofs.Ytghhnimimccpoaa.L14
open Go.RowKit Go.Sort P Mm R6 R14
/-- What Map of package line answers, by LineMaps' own closure. -/
structure LnH : Prop where
  half : ∀ (k : Int) (l : List Int) (ao : Option Addr) (cap : Nat) (w : World), Row tRn w ao (runsF k l).length cap (runsF k l) → Ply k l →
    Calls Try.prog 25 #[.agg #[.slice ao (runsF k l).length cap], .func (.func 26) #[] #[]] w fun e w' => (∃ ao' cap', e = .returned (.agg #[.slice ao' (runsF k (l.map fun v => v.tdiv 2)).length cap']) ∧ Row tRn w' ao' (runsF k (l.map fun v => v.tdiv 2)).length cap' (runsF k (l.map fun v => v.tdiv 2))) ∧ Below w.heap.size w w'
def eqS (a b : List Int) (i : Nat) : Bool := decide (a.length = b.length) && decide (a.take i = b.take i)
theorem eqS_step {a b : List Int} {i : Nat} (h : eqS a b i = false) : eqS a b (i + 1) = false := by
  rcases Bool.eq_false_or_eq_true (eqS a b (i + 1)) with k | k
  · unfold eqS at h k
    rw [Bool.and_eq_true, decide_eq_true_eq, decide_eq_true_eq] at k
    have e : a.take i = b.take i := by
      have := congrArg (List.take i) k.2
      rwa [List.take_take, List.take_take, Nat.min_eq_left (Nat.le_succ i)] at this
    rw [decide_eq_true k.1, decide_eq_true e] at h
    cases h
  · exact k
theorem eqS_true {a b : List Int} {i : Nat} {v : Int} (h : eqS a b i = true) (hv : a[i]? = some v) : ∃ u, b[i]? = some u ∧ i < b.length ∧ eqS a b (i + 1) = (u == v) := by
  unfold eqS at h
  rw [Bool.and_eq_true, decide_eq_true_eq, decide_eq_true_eq] at h
  have hi := (List.getElem?_eq_some_iff.1 hv).1
  have hb : i < b.length := by omega
  refine ⟨b[i], List.getElem?_eq_getElem hb, hb, ?_⟩
  unfold eqS
  rw [decide_eq_true h.1, Bool.true_and, List.take_add_one, List.take_add_one, hv, List.getElem?_eq_getElem hb, h.2]
  by_cases e : b[i] = v
  · rw [e, decide_eq_true rfl]
    simp
  · rw [decide_eq_false (fun h2 => e (by
      have := List.append_cancel_left h2
      simpa using this.symm))]
    exact (beq_eq_false_iff_ne.2 e).symm
theorem eqS_end (k : Int) (a b : List Int) : eqS a b a.length = decide (runsF k a = runsF k b) := by
  unfold eqS
  by_cases h : a = b
  · subst h
    rw [decide_eq_true rfl, decide_eq_true rfl, decide_eq_true rfl]
    rfl
  · rw [decide_eq_false (fun e => h (runs_inj e))]
    by_cases hl : a.length = b.length
    · rw [decide_eq_true hl, decide_eq_false (fun e => h (by
        rw [List.take_length, hl, List.take_length] at e
        exact e))]
      rfl
    · rw [decide_eq_false hl]
      rfl
theorem tdiv_i {v : Int} (h : I64 v) : I64 (v.tdiv 2) := by
  unfold I64 at *
  rcases Int.lt_or_le v 0 with k | k
  · have e : v.tdiv 2 = -((-v) / 2) := by
      rw [show v = -(-v) by omega, Int.neg_tdiv, Int.tdiv_eq_ediv_of_nonneg (by omega)]
      simp
    rw [e]
    omega
  · rw [Int.tdiv_eq_ediv_of_nonneg k]
    omega
theorem map_i {l : List Int} (h : ∀ v ∈ l, I64 v) : ∀ v ∈ l.map (fun v => v.tdiv 2), I64 v := fun v hv => by
  obtain ⟨u, hu, rfl⟩ := List.mem_map.1 hv
  exact tdiv_i (h u hu)
set_option maxHeartbeats 4000000 in
set_option maxRecDepth 100000 in
theorem maps_walk (S : Ln) (H : LnH) (k : Int) (l : List Int) (ao : Option Addr) (cap : Nat) (l' : List Int) (bo : Option Addr) (bcap : Nat) (w : World) (hl : Row tInt w ao l.length cap l) (hl' : Row tInt w bo l'.length bcap l') :
    Calls Try.prog 6 #[.int .i64 k, .slice ao l.length cap, .slice bo l'.length bcap] w fun e w' => e = .returned (.bool true) ∧ Below w.heap.size w w' := by
  have cA := hid (alive_any S w)
  have cG := great_any k l ao cap
  have cG' := great_any k l' bo bcap
  have lm := hl.hmax
  have lc := hl.hcap
  have lm' := hl'.hmax
  have lc' := hl'.hcap
  have HL := hid (fun (W : World) (b : Below w.heap.size w W) => hl.on b)
  have HL' := hid (fun (W : World) (b : Below w.heap.size w W) => hl'.on b)
  rcases Bool.eq_false_or_eq_true (greatB k l) with g | g
  · rw [g] at cG
    have cG := hid cG
    clear g
    go_enter Try.func6, Try.ntmps6
    go_wp2_with fail
    refine cA.out.mono ?_
    rintro e w1 ⟨rfl, b1⟩
    have B1 := hid b1
    clear b1 cA
    go_wp2_with fail
    refine (cG.out w1 (HL.out w1 B1.out)).mono ?_
    rintro e w' ⟨rfl, rfl⟩
    clear cG
    go_wp2
    go_ret
    exact ⟨rfl, B1.out⟩
  obtain ⟨p1, p2, p3⟩ := great_not g
  rw [g] at cG
  have cG := hid cG
  rcases Bool.eq_false_or_eq_true (greatB k l') with g' | g'
  · rw [g'] at cG'
    have cG' := hid cG'
    clear g g'
    go_enter Try.func6, Try.ntmps6
    go_wp2_with fail
    refine cA.out.mono ?_
    rintro e w1 ⟨rfl, b1⟩
    have B1 := hid b1
    clear b1 cA
    go_wp2_with fail
    refine (cG.out w1 (HL.out w1 B1.out)).mono ?_
    rintro e w' ⟨rfl, rfl⟩
    clear cG
    go_wp2_with fail
    refine (cG'.out w1 (HL'.out w1 B1.out)).mono ?_
    rintro e w' ⟨rfl, rfl⟩
    clear cG'
    go_wp2
    go_ret
    exact ⟨rfl, B1.out⟩
  obtain ⟨p4, p5, p6⟩ := great_not g'
  rw [g'] at cG'
  have cG' := hid cG'
  have hp : Ply k l := ply_of (by omega) (by omega) (by omega) (row_vals hl)
  have hp' : Ply k l' := ply_of (by omega) (by omega) (by omega) (row_vals hl')
  have cO := fun (W : World) (b : Below w.heap.size w W) => S.of k l ao cap W (HL.out W b) (by omega) (by omega) (by omega)
  have cO' := fun (W : World) (b : Below w.heap.size w W) => S.of k l' bo bcap W (HL'.out W b) (by omega) (by omega) (by omega)
  have cM := fun a2 c2 W h => H.half k l a2 c2 W h hp
  have cE := fun a2 c2 a3 c3 W h1 h2 => S.equal k l a2 c2 k l' a3 c3 W h1 hp h2 hp'
  have cSm := fun a2 c2 a3 c3 W h1 h2 => same_any S k (l.map fun v => v.tdiv 2) a2 c2 a3 c3 W h1 h2 (by omega) (by rw [List.length_map]; omega)
  rw [← eqS_end] at cE
  rw [List.length_map] at cSm
  have VI := hid (map_i (row_vals hl))
  have MT := hid (fun (i : Nat) (v : Int) (h : l[i]? = some v) => (show (l.map fun v => v.tdiv 2).take (i + 1) = (l.map fun v => v.tdiv 2).take i ++ [v.tdiv 2] by
    rw [List.take_add_one, List.getElem?_map, h]
    rfl))
  have ML := hid (show (l.map fun v => v.tdiv 2).length = l.length from List.length_map _)
  obtain ⟨D, hD⟩ : ∃ D, D = l.map fun v => v.tdiv 2 := ⟨_, rfl⟩
  rw [← hD] at cM cSm VI MT ML
  obtain ⟨R1, hR1⟩ : ∃ R, R = runsF k l := ⟨_, rfl⟩
  rw [← hR1] at cO cM cE
  obtain ⟨N1, hN1⟩ : ∃ N, N = R1.length := ⟨_, rfl⟩
  rw [← hN1] at cO cM cE
  obtain ⟨R2, hR2⟩ : ∃ R, R = runsF k l' := ⟨_, rfl⟩
  rw [← hR2] at cO' cE
  obtain ⟨N2, hN2⟩ : ∃ N, N = R2.length := ⟨_, rfl⟩
  rw [← hN2] at cO' cE
  obtain ⟨R3, hR3⟩ : ∃ R, R = runsF k D := ⟨_, rfl⟩
  rw [← hR3] at cM cSm
  obtain ⟨N3, hN3⟩ : ∃ N, N = R3.length := ⟨_, rfl⟩
  rw [← hN3] at cM cSm
  have cO := hid cO; have cO' := hid cO'; have cM := hid cM; have cE := hid cE; have cSm := hid cSm
  obtain ⟨i0, hi0, hz0, hz1, hz2⟩ := info_parts R14.info_int
  clear g g' hp hp' hD hR1 hN1 hR2 hN2 hR3 hN3 hl hl' p1 p2 p4 p5
  go_enter Try.func6, Try.ntmps6
  go_wp2_with fail
  refine cA.out.mono ?_
  rintro e w1 ⟨rfl, b1⟩
  have B1 := hid b1
  clear b1 cA
  go_wp2_with fail
  refine (cG.out w1 (HL.out w1 B1.out)).mono ?_
  rintro e w' ⟨rfl, rfl⟩
  clear cG
  go_wp2_with fail
  refine (cG'.out w1 (HL'.out w1 B1.out)).mono ?_
  rintro e w' ⟨rfl, rfl⟩
  clear cG'
  go_wp2_with fail
  refine (cO.out w1 B1.out).mono ?_
  rintro e w2 ⟨⟨a2, c2, rfl, r2⟩, b2⟩
  have B2 := hid (bel_on B1.out b2)
  have r2 := hid r2
  clear b2 cO B1
  go_wp2_with fail
  refine (cO'.out w2 B2.out).mono ?_
  rintro e w3 ⟨⟨a3, c3, rfl, r3⟩, b3⟩
  obtain ⟨w4, hw4⟩ : ∃ W, W = w3.alloc (.cells #[.slice a2 N1 c2] 27) := ⟨_, rfl⟩
  obtain ⟨k4, hk4⟩ : ∃ k, k = w3.heap.size := ⟨_, rfl⟩
  have b34 : Below w3.heap.size w3 w4 := by rw [hw4]; exact bel_alloc _ _
  have X4 : Box w4 k4 [.slice a2 N1 c2] := by rw [hw4, hk4]; exact Box.new w3 [.slice a2 N1 c2] _
  obtain ⟨w5, hw5⟩ : ∃ W, W = w4.alloc (.cells #[.slice a3 N2 c3] 27) := ⟨_, rfl⟩
  obtain ⟨k5, hk5⟩ : ∃ k, k = w4.heap.size := ⟨_, rfl⟩
  have b45 : Below w4.heap.size w4 w5 := by rw [hw5]; exact bel_alloc _ _
  have X5 : Box w5 k5 [.slice a3 N2 c3] := by rw [hw5, hk5]; exact Box.new w4 [.slice a3 N2 c3] _
  have b35 := bel_on b34 b45
  have HX := hid (fun (W : World) (b : Below w5.heap.size w5 W) => (⟨(X4.on b45).on b, X5.on b, ((r2.out.on b3).on b35).on b, (r3.on b35).on b, bel_on (bel_on (bel_on B2.out b3) b35) b⟩ : Box W k4 [.slice a2 N1 c2] ∧ Box W k5 [.slice a3 N2 c3] ∧ Row tRn W a2 N1 c2 R1 ∧ Row tRn W a3 N2 c3 R2 ∧ Below w.heap.size w W))
  have HW := hid (show w5 = (w3.alloc (.cells #[.slice a2 N1 c2] 27)).alloc (.cells #[.slice a3 N2 c3] 27) by rw [hw5, hw4])
  have HK4 := hid hk4
  have HK5 := hid (show k5 = w3.heap.size + 1 by rw [hk5, hw4]; simp)
  have B0 := hid (Below.refl w5.heap.size w5)
  clear b3 cO' B2 hw4 hk4 b34 X4 hw5 hk5 b45 X5 b35 r2 r3
  go_upto_region 6 with fail
  rw [← HW.out, ← HK5.out, ← HK4.out]
  clear HW HK4 HK5
  obtain ⟨e0, he0⟩ : ∃ e, ((l.length : Int) == (l'.length : Int)) = e := ⟨_, rfl⟩
  have E0 := hid (show e0 = eqS l l' 0 by
    rw [← he0]
    unfold eqS
    rw [List.take_zero, List.take_zero, decide_eq_true rfl, Bool.and_true]
    by_cases h : l.length = l'.length
    · rw [decide_eq_true h, h]; simp
    · rw [decide_eq_false h, beq_eq_false_iff_ne]; omega)
  go_wp2
  go_loopw [9, 10, 37] (fun q v i wr => ∃ (Q : Bool) (V : Value) (i' : Nat), q = .bool Q ∧ v = V ∧ i = .int .i64 (i' : Int) ∧ i' ≤ l.length ∧ Hid (Q = eqS l l' i') ∧ Hid (wr.ownsRow w5.heap.size 3 1 V i' ((D.take i').flatMap intC)) ∧ Hid (Below w5.heap.size w5 wr)) (fun _ _ i _ => l.length - (intOf i).toNat)
  case atStart => exact ⟨e0, _, 0, rfl, rfl, rfl, Nat.zero_le _, E0, hid (World.ownsRow_nil _ _ _ _), B0⟩
  case round =>
    obtain ⟨Q, V, i', rfl, rfl, rfl, hi, hQ, hO, hb⟩ := hrel
    clear B0 E0 he0
    by_cases hlt : i' < l.length
    · obtain ⟨v, hv⟩ : ∃ v, l[i']? = some v := ⟨_, List.getElem?_eq_getElem hlt⟩
      obtain ⟨bb, ob, eb, lb, q0, qi⟩ := int_at (HL.out wr (HX.out wr hb.out).2.2.2.2) hv
      subst eb
      have wd : wrap64 (v.tdiv 2) = v.tdiv 2 := wrap_in (tdiv_i qi)
      have wd2 : IntKind.i64.wrap (v.tdiv 2) = v.tdiv 2 := wrap_l (tdiv_i qi)
      clear qi
      have TK := hid (show (D.take (i' + 1)).flatMap intC = (D.take i').flatMap intC ++ intC (v.tdiv 2) by rw [MT.out i' v hv, List.flatMap_append]; rfl)
      have oo := hO.out
      have hsz := hb.out.size
      rcases Bool.eq_false_or_eq_true Q with hq | hq
      · obtain ⟨u, hu, hib, hn⟩ := eqS_true (hQ.out.symm.trans hq) hv
        obtain ⟨b2, o2, e2, lb2, q1, -⟩ := int_at (HL'.out wr (HX.out wr hb.out).2.2.2.2) hu
        subst e2
        subst hq
        have zi : decide ((i' : Int) < (l'.length : Int)) = true := decide_eq_true (by omega)
        have hib2 : (i' : Int) < (l'.length : Int) := by omega
        obtain ⟨Q2, hq2⟩ : ∃ q, (u == v) = q := ⟨_, rfl⟩
        have N2' := hid (show Q2 = eqS l l' (i' + 1) by rw [hn, hq2])
        clear hv hu hn hQ hO
        go_wp2_with (at_builtin; refine wpList_append_own _ rfl _ _ 22 rfl w5.heap.size 3 i0 (.int .i64 0) 1 8 Try.underlying22 hi0 hz0 hz1 hz2 rfl (by decide) _ _ _ rfl (oo.alloc _) ⟨wr.heap.size, 0, none⟩ 1 1 (intC (v.tdiv 2)) rfl rfl (news_at wr (intC (v.tdiv 2)) _) (by simp [intC, Value.oneCell']) (by unfold maxLen; omega) (by omega) (by simp; omega) ?_)
        intro v5 w6 hown hgrow _
        have B6 := hid ((hb.out.alloc hsz _).grown hgrow (hb.out.alloc hsz _).size (fun j hj => (oo.lt j hj).1))
        have O6 := hid (show w6.ownsRow w5.heap.size 3 1 v5 (i' + 1) ((D.take (i' + 1)).flatMap intC) by rw [TK.out]; exact hown)
        clear hown hgrow oo TK hb
        go_wp2
        go_roundw
        case rel => exact ⟨Q2, _, i' + 1, rfl, rfl, by simp, by omega, N2', O6, B6⟩
        case measure => simp [intOf]; omega
      · have hn := eqS_step (hQ.out.symm.trans hq)
        subst hq
        have N2' := hid (show false = eqS l l' (i' + 1) from hn.symm)
        clear hv hn hQ hO
        go_wp2_with (at_builtin; refine wpList_append_own _ rfl _ _ 22 rfl w5.heap.size 3 i0 (.int .i64 0) 1 8 Try.underlying22 hi0 hz0 hz1 hz2 rfl (by decide) _ _ _ rfl (oo.alloc _) ⟨wr.heap.size, 0, none⟩ 1 1 (intC (v.tdiv 2)) rfl rfl (news_at wr (intC (v.tdiv 2)) _) (by simp [intC, Value.oneCell']) (by unfold maxLen; omega) (by omega) (by simp; omega) ?_)
        intro v5 w6 hown hgrow _
        have B6 := hid ((hb.out.alloc hsz _).grown hgrow (hb.out.alloc hsz _).size (fun j hj => (oo.lt j hj).1))
        have O6 := hid (show w6.ownsRow w5.heap.size 3 1 v5 (i' + 1) ((D.take (i' + 1)).flatMap intC) by rw [TK.out]; exact hown)
        clear hown hgrow oo TK hb
        go_wp2
        go_roundw
        case rel => exact ⟨false, _, i' + 1, rfl, rfl, by simp, by omega, N2', O6, B6⟩
        case measure => simp [intOf]; omega
    · obtain rfl : i' = l.length := by omega
      have oV := hO.out
      rw [show D.take l.length = D by rw [← ML.out, List.take_length]] at oV
      rw [← ML.out] at oV
      obtain ⟨ao2, cp, e, R2'⟩ := row_own (n := 1) (cells := intC) (ok := I64) (hn := fun _ => rfl) oV VI.out
      rw [ML.out] at e R2'
      subst e
      have RB := hid R2'
      have hcp := R2'.hcap
      have hcm := R2'.hmax
      obtain ⟨wq, hwq⟩ : ∃ W, W = wr := ⟨_, rfl⟩
      have BQ := hid hb.out
      have d4 := (HX.out wr hb.out).1.cell 0 _ rfl
      have l4 := (HX.out wr hb.out).1.lt
      rw [← hwq] at RB BQ d4 l4 ⊢
      clear oV R2' hO hb hwq
      go_wp2_with fail
      refine (cM.out a2 c2 wq (HX.out wq BQ.out).2.2.1).mono ?_
      rintro e w6 ⟨⟨a6, c6, rfl, r6⟩, b6⟩
      obtain ⟨w7, hw7⟩ : ∃ W, W = w6.alloc (.cells #[.slice a6 N3 c6] 27) := ⟨_, rfl⟩
      obtain ⟨k7, hk7⟩ : ∃ k, k = w6.heap.size := ⟨_, rfl⟩
      have b67 : Below w6.heap.size w6 w7 := by rw [hw7]; exact bel_alloc _ _
      have X7 : Box w7 k7 [.slice a6 N3 c6] := by rw [hw7, hk7]; exact Box.new w6 [.slice a6 N3 c6] _
      have R7 := hid (r6.on b67)
      have bq7 := bel_on b6 b67
      have B7 := hid (bel_on BQ.out bq7)
      have RB7 := hid (RB.out.on bq7)
      have HX7 := hid X7
      have d4 := (HX.out w7 B7.out).1.cell 0 _ rfl
      have l4 := (HX.out w7 B7.out).1.lt
      have d5 := (HX.out w7 B7.out).2.1.cell 0 _ rfl
      have l5 := (HX.out w7 B7.out).2.1.lt
      have HW := hid hw7
      have HK := hid hk7
      clear b6 r6 hw7 hk7 b67 X7 bq7 cM RB BQ
      go_upto_region 15 with fail
      rw [← HW.out, ← HK.out]
      clear HW HK
      have ce := cE.out a2 c2 a3 c3 w7 (HX.out w7 B7.out).2.2.1 (HX.out w7 B7.out).2.2.2.1
      rw [← hQ.out] at ce
      have ce := hid ce
      clear cE hQ
      go_wp2_with fail
      refine ce.out.mono ?_
      rintro e w8 ⟨rfl, b8⟩
      have B8 := hid (bel_on B7.out b8)
      have R8 := hid (R7.out.on b8)
      have RB8 := hid (RB7.out.on b8)
      have d7 := (HX7.out.on b8).cell 0 _ rfl
      have l7 := (HX7.out.on b8).lt
      have qq : (Q == Q) = true := by simp
      clear ce b8 d4 l4 d5 l5 HX7 R7 RB7 B7
      go_wp2_with fail
      refine (cSm.out a6 c6 ao2 cp w8 R8.out RB8.out).mono ?_
      rintro e w9 ⟨rfl, b9⟩
      have BF := hid (HX.out w9 (bel_on B8.out b9)).2.2.2.2
      clear cSm b9 d7 l7 R8 RB8 B8
      go_wp2
      go_ret
      exact ⟨rfl, BF.out⟩
end Go.Proofs.Ytghhnimimccpoaa.L14
/- LineWords (layer 14): lines of texts. -/
namespace Go.Proofs.Ytghhnimimccpoaa.L14
open Go.RowKit Go.Sort P Mm R6 R14
def smF (v : Int) : Int := v % 18446744073709551616 % 3
def wordS (s : Int) : ByteArray := if s = 0 then ⟨#[97]⟩ else if s = 1 then ⟨#[98]⟩ else ⟨#[99]⟩
def wordF (v : Int) : ByteArray := wordS (smF v)
theorem ix0 (T0 T1 T2 : ByteArray) (W : World) : (Instr.index 80 (.agg #[.string T0, .string T1, .string T2]) (.int .i64 0)).run Try.prog W = .ok (.string T0) W := by kernel_rfl
theorem ix1 (T0 T1 T2 : ByteArray) (W : World) : (Instr.index 80 (.agg #[.string T0, .string T1, .string T2]) (.int .i64 1)).run Try.prog W = .ok (.string T1) W := by kernel_rfl
theorem ix2 (T0 T1 T2 : ByteArray) (W : World) : (Instr.index 80 (.agg #[.string T0, .string T1, .string T2]) (.int .i64 2)).run Try.prog W = .ok (.string T2) W := by kernel_rfl
theorem sm_in (v : Int) : 0 ≤ smF v ∧ smF v ≤ 2 := by unfold smF; omega
theorem sm_sm (v : Int) : smF (smF v) = smF v := by
  have := sm_in v
  obtain ⟨s, hs⟩ : ∃ s, s = smF v := ⟨_, rfl⟩
  rw [← hs] at this ⊢
  unfold smF
  omega
theorem word_sm (v : Int) : wordF (smF v) = wordF v := by
  unfold wordF
  rw [sm_sm]
theorem word_size (v : Int) : (wordF v).size ≤ 1 := by
  unfold wordF wordS
  split
  · exact Nat.le_refl _
  · split <;> exact Nat.le_refl _
theorem word_inj {a b : Int} (ha : smF a = a) (hb : smF b = b) (h : wordF a = wordF b) : a = b := by
  have h1 := sm_in a
  have h2 := sm_in b
  unfold wordF wordS at h
  rw [ha] at h h1
  rw [hb] at h h2
  split at h
  · split at h
    · omega
    · split at h
      · exact absurd h (by decide)
      · exact absurd h (by decide)
  · split at h
    · split at h
      · exact absurd h (by decide)
      · split at h
        · omega
        · exact absurd h (by decide)
    · split at h
      · exact absurd h (by decide)
      · split at h
        · exact absurd h (by decide)
        · omega
set_option maxHeartbeats 1600000 in
set_option maxRecDepth 100000 in
theorem word_any (v : Int) (w : World) : Calls Try.prog 27 #[.int .i64 v] w fun e w' => e = .returned (.string (wordF v)) ∧ w = w' := by
  have h0 := sm_in v
  have i0 := ix0 ⟨#[97]⟩ ⟨#[98]⟩ ⟨#[99]⟩ w
  have i1 := ix1 ⟨#[97]⟩ ⟨#[98]⟩ ⟨#[99]⟩ w
  have i2 := ix2 ⟨#[97]⟩ ⟨#[98]⟩ ⟨#[99]⟩ w
  unfold wordF
  have h1 : smF v = 0 ∨ smF v = 1 ∨ smF v = 2 := by omega
  have hu : IntKind.u64.wrap v = v % 18446744073709551616 := rfl
  clear h0
  rcases h1 with e | e | e
  all_goals
    rw [e]
    unfold smF at e
    go_enter Try.func27, Try.ntmps27
    go_wp2
    go_ret
    exact ⟨rfl, rfl⟩
/-- Runs of what comes of values, one by one, by what doesn't make one of two. -/
theorem runs_map {β : Type} [DecidableEq β] (f : Int → β) : ∀ (l : List Int) (k : Int), (∀ a ∈ l, ∀ b ∈ l, f a = f b → a = b) → runsF k (l.map f) = (runsF k l).map fun (r : Rn Int) => (⟨r.a, r.b, f r.v⟩ : Rn β)
  | [], _, _ => rfl
  | v :: l, k, h => by
    have ih := runs_map f l (k + 1) fun a ha b hb => h a (List.mem_cons_of_mem _ ha) b (List.mem_cons_of_mem _ hb)
    have hin := runs_in l (k + 1)
    rw [List.map_cons]
    unfold runsF
    rw [ih]
    cases hr : runsF (k + 1) l with
    | nil => rfl
    | cons r rs =>
      have hm := (hin r (by rw [hr]; exact List.mem_cons_self ..)).2.2.2
      show (if f r.v = f v then _ else _) = List.map _ (if r.v = v then _ else _)
      by_cases e : r.v = v
      · rw [if_pos e, if_pos (by rw [e])]
        rfl
      · rw [if_neg e, if_neg (fun e2 => e (h r.v (List.mem_cons_of_mem _ hm) v (List.mem_cons_self ..) e2))]
        rfl
def rsC (r : Rn ByteArray) : List Value := [.int .i64 r.a, .int .i64 r.b, .string r.v]
def RsOk (r : Rn ByteArray) : Prop := I64 r.a ∧ I64 r.b ∧ r.v.size ≤ 9223372036854775807
def tRs : Ty (Rn ByteArray) := leaf 3 rsC RsOk (fun _ => rfl)
/-- What package line answers, of lines of texts. -/
structure LnS : Prop where
  of : ∀ (k : Int) (l : List ByteArray) (ao : Option Addr) (cap : Nat) (w : World), Row tStr w ao l.length cap l → -2147483648 ≤ k → k ≤ 2147483648 → l.length ≤ 1000 → (∀ s ∈ l, s.size ≤ 1000) →
    Calls Try.prog 28 #[.int .i64 k, .slice ao l.length cap] w fun e w' => (∃ ao' cap', e = .returned (.agg #[.slice ao' (runsF k l).length cap']) ∧ Row tRs w' ao' (runsF k l).length cap' (runsF k l)) ∧ Below w.heap.size w w'
  count : ∀ (k : Int) (l : List ByteArray) (ao : Option Addr) (cap : Nat) (w : World), Row tRs w ao (runsF k l).length cap (runsF k l) → -2147483648 ≤ k → k ≤ 2147483648 → l.length ≤ 1000 → (∀ s ∈ l, s.size ≤ 1000) →
    Calls Try.prog 31 #[.agg #[.slice ao (runsF k l).length cap]] w fun e w' => e = .returned (.int .i64 ((runsF k l).length : Int)) ∧ Below w.heap.size w w'
  at' : ∀ (k x : Int) (l : List ByteArray) (ao : Option Addr) (cap : Nat) (w : World), Row tRs w ao (runsF k l).length cap (runsF k l) → -2147483648 ≤ k → k ≤ 2147483648 → l.length ≤ 1000 → (∀ s ∈ l, s.size ≤ 1000) → Lim x →
    Calls Try.prog 32 #[.agg #[.slice ao (runsF k l).length cap], .int .i64 x] w fun e w' => e = .returned (.tuple #[.string ((atL k l x).getD ⟨#[]⟩), .bool (atL k l x).isSome]) ∧ Below w.heap.size w w'
  equal : ∀ (k : Int) (l : List ByteArray) (ao : Option Addr) (cap : Nat) (bo : Option Addr) (bcap : Nat) (w : World), Row tRs w ao (runsF k l).length cap (runsF k l) → Row tRs w bo (runsF k l).length bcap (runsF k l) → -2147483648 ≤ k → k ≤ 2147483648 → l.length ≤ 1000 → (∀ s ∈ l, s.size ≤ 1000) →
    Calls Try.prog 30 #[.agg #[.slice ao (runsF k l).length cap], .agg #[.slice bo (runsF k l).length bcap]] w fun e w' => e = .returned (.bool true) ∧ Below w.heap.size w w'
  map : ∀ (k : Int) (l : List Int) (ao : Option Addr) (cap : Nat) (w : World), Row tRn w ao (runsF k l).length cap (runsF k l) → Ply k l → l.length ≤ 1000 →
    Calls Try.prog 29 #[.agg #[.slice ao (runsF k l).length cap], .func (.func 27) #[] #[]] w fun e w' => (∃ ao' cap', e = .returned (.agg #[.slice ao' (runsF k (l.map wordF)).length cap']) ∧ Row tRs w' ao' (runsF k (l.map wordF)).length cap' (runsF k (l.map wordF))) ∧ Below w.heap.size w w'
theorem info_strl : (Try.prog.info? 9).map (fun i => (i.zero, i.size, i.bytes)) = some (some (.string ⟨#[]⟩), 1, 16) := by kernel_rfl
def strC (s : ByteArray) : List Value := [.string s]
theorem smap (l : List Int) : (l.map smF).map wordF = l.map wordF := by
  rw [List.map_map]
  exact List.map_congr_left fun v _ => word_sm v
theorem count_same (k : Int) (l : List Int) : (runsF k (l.map wordF)).length = (runsF k (l.map smF)).length := by
  rw [← smap, runs_map wordF (l.map smF) k (fun a ha b hb h => by
    obtain ⟨u, _, rfl⟩ := List.mem_map.1 ha
    obtain ⟨z, _, rfl⟩ := List.mem_map.1 hb
    exact word_inj (sm_sm u) (sm_sm z) h), List.length_map]
theorem str_at {w : World} {bo : Option Addr} {len cap : Nat} {bk : List ByteArray} (h : Row tStr w bo len cap bk) {i : Nat} {v : ByteArray} (hj : bk[i]? = some v) : ∃ b o, bo = some ⟨b, o, none⟩ ∧ b < w.heap.size ∧ w.cell? ⟨b, o + i, none⟩ = some (.string v) := by
  obtain ⟨b, o, cs, h1, h2, ⟨h3, h5⟩, h4⟩ := h.at hj
  subst h3
  refine ⟨b, o, h1, h2, ?_⟩
  have := h4 0 _ rfl
  rw [show tStr.n = 1 from rfl, Nat.mul_one] at this
  exact this
set_option maxHeartbeats 4000000 in
set_option maxRecDepth 100000 in
theorem words_walk (S : Ln) (T : LnS) (k : Int) (l : List Int) (ao : Option Addr) (cap : Nat) (w : World) (hl : Row tInt w ao l.length cap l) :
    Calls Try.prog 7 #[.int .i64 k, .slice ao l.length cap] w fun e w' => e = .returned (.bool true) ∧ Below w.heap.size w w' := by
  have cA := hid (alive_any S w)
  have cG := great_any k l ao cap
  have lm := hl.hmax
  have lc := hl.hcap
  have HL := hid (fun (W : World) (b : Below w.heap.size w W) => hl.on b)
  rcases Bool.eq_false_or_eq_true (greatB k l) with g | g
  · rw [g] at cG
    have cG := hid cG
    clear g hl
    go_enter Try.func7, Try.ntmps7
    go_wp2_with fail
    refine cA.out.mono ?_
    rintro e w1 ⟨rfl, b1⟩
    have B1 := hid b1
    clear b1 cA
    go_wp2_with fail
    refine (cG.out w1 (HL.out w1 B1.out)).mono ?_
    rintro e w' ⟨rfl, rfl⟩
    clear cG
    go_wp2
    go_ret
    exact ⟨rfl, B1.out⟩
  obtain ⟨p1, p2, p3⟩ := great_not g
  rw [g] at cG
  have cG := hid cG
  have lS : (l.map smF).length = l.length := List.length_map _
  have lW : (l.map wordF).length = l.length := List.length_map _
  have sI : ∀ v ∈ l.map smF, I64 v := fun v hv => by
    obtain ⟨u, _, rfl⟩ := List.mem_map.1 hv
    have := sm_in u
    unfold I64
    omega
  have sW : ∀ s ∈ l.map wordF, s.size ≤ 1000 := fun v hv => by
    obtain ⟨u, _, rfl⟩ := List.mem_map.1 hv
    have := word_size u
    omega
  have hp : Ply k (l.map smF) := ply_of (by omega) (by omega) (by omega) sI
  have cOS := fun (W : World) a2 c2 (h : Row tInt W a2 (l.map smF).length c2 (l.map smF)) => S.of k (l.map smF) a2 c2 W h (by omega) (by omega) (by omega)
  have cCS := fun a2 c2 W h => S.count k (l.map smF) a2 c2 W h hp
  have cOW := fun (W : World) a2 c2 (h : Row tStr W a2 (l.map wordF).length c2 (l.map wordF)) => T.of k (l.map wordF) a2 c2 W h (by omega) (by omega) (by omega) sW
  have cCW := fun a2 c2 W h => T.count k (l.map wordF) a2 c2 W h (by omega) (by omega) (by omega) sW
  have cAW := fun (x : Int) (hx : Lim x) a2 c2 W h => T.at' k x (l.map wordF) a2 c2 W h (by omega) (by omega) (by omega) sW hx
  have cEW := fun a2 c2 a3 c3 W h1 h2 => T.equal k (l.map wordF) a2 c2 a3 c3 W h1 h2 (by omega) (by omega) (by omega) sW
  have cMW := fun a2 c2 W h => T.map k (l.map smF) a2 c2 W h hp (by omega)
  rw [smap] at cMW
  have cs := count_same k l
  have TW := hid (fun (i : Nat) (v : Int) (h : l[i]? = some v) => (show (l.map wordF).take (i + 1) = (l.map wordF).take i ++ [wordF v] by
    rw [List.take_add_one, List.getElem?_map, h]
    rfl))
  have TS := hid (fun (i : Nat) (v : Int) (h : l[i]? = some v) => (show (l.map smF).take (i + 1) = (l.map smF).take i ++ [smF v] by
    rw [List.take_add_one, List.getElem?_map, h]
    rfl))
  rw [lS] at cOS
  rw [lW] at cOW
  obtain ⟨XW, hXW⟩ : ∃ X, X = l.map wordF := ⟨_, rfl⟩
  obtain ⟨XS, hXS⟩ : ∃ X, X = l.map smF := ⟨_, rfl⟩
  rw [← hXW] at cOW cCW cAW cEW cMW cs TW lW sW
  rw [← hXS] at cOS cCS cMW cs TS lS sI
  obtain ⟨RW, hRW⟩ : ∃ R, R = runsF k XW := ⟨_, rfl⟩
  obtain ⟨RS, hRS⟩ : ∃ R, R = runsF k XS := ⟨_, rfl⟩
  rw [← hRW] at cOW cCW cAW cEW cMW cs
  rw [← hRS] at cOS cCS cMW cs
  rw [cs] at cOW cCW cAW cEW cMW
  obtain ⟨N, hN⟩ : ∃ N, N = RS.length := ⟨_, rfl⟩
  rw [← hN] at cOW cCW cAW cEW cMW cOS cCS
  have cOS := hid cOS; have cCS := hid cCS; have cOW := hid cOW; have cCW := hid cCW; have cAW := hid cAW; have cEW := hid cEW; have cMW := hid cMW
  have SI := hid sI; have SW := hid sW
  have LS := hid lS; have LW := hid lW
  have GP := hid (show -1048576 ≤ k ∧ k ≤ 1048576 from ⟨p1, p2⟩)
  obtain ⟨i0, hi0, hz0, hz1, hz2⟩ := info_parts R14.info_int
  obtain ⟨j0, hj0, hy0, hy1, hy2⟩ := info_parts info_strl
  have WS := hid word_size
  clear hp hXW hXS hRW hRS hN cs hl g p1 p2 sI sW lS lW
  go_enter Try.func7, Try.ntmps7
  go_wp2_with fail
  refine cA.out.mono ?_
  rintro e w1 ⟨rfl, b1⟩
  have B1 := hid b1
  clear b1 cA
  go_wp2_with fail
  refine (cG.out w1 (HL.out w1 B1.out)).mono ?_
  rintro e w' ⟨rfl, rfl⟩
  clear cG
  have B0 := hid (Below.refl w1.heap.size w1)
  go_wp2
  go_loopw [5, 6, 21] (fun t v i wr => ∃ (V U : Value) (i' : Nat), t = V ∧ v = U ∧ i = .int .i64 (i' : Int) ∧ i' ≤ l.length ∧ Hid (wr.ownsRow w1.heap.size 9 1 V i' ((XW.take i').flatMap strC)) ∧ Hid (wr.ownsRow w1.heap.size 3 1 U i' ((XS.take i').flatMap intC)) ∧ Hid (∀ j, V.ownBlock = some j → U.ownBlock ≠ some j) ∧ Hid (Below w1.heap.size w1 wr)) (fun _ _ i _ => l.length - (intOf i).toNat)
  case atStart => exact ⟨_, _, 0, rfl, rfl, rfl, Nat.zero_le _, hid (World.ownsRow_nil _ _ _ _), hid (World.ownsRow_nil _ _ _ _), hid (fun j h => by cases h), B0⟩
  case round =>
    obtain ⟨V, U, i', rfl, rfl, rfl, hi, hOW, hOS, hap, hb⟩ := hrel
    clear B0
    by_cases hlt : i' < l.length
    · obtain ⟨v, hv⟩ : ∃ v, l[i']? = some v := ⟨_, List.getElem?_eq_getElem hlt⟩
      obtain ⟨bb, ob, eb, lb, q0, -⟩ := int_at (HL.out wr (bel_on B1.out hb.out)) hv
      subst eb
      have TKW := hid (show (XW.take (i' + 1)).flatMap strC = (XW.take i').flatMap strC ++ strC (wordF v) by rw [TW.out i' v hv, List.flatMap_append]; rfl)
      have TKS := hid (show (XS.take (i' + 1)).flatMap intC = (XS.take i').flatMap intC ++ intC (v % 18446744073709551616 % 3) by rw [TS.out i' v hv, List.flatMap_append]; rfl)
      have hsz := hb.out.size
      have oW := hOW.out
      have oS := hOS.out
      have wsz := WS.out v
      have cW := hid (fun W => word_any v W)
      obtain ⟨D, hD⟩ : ∃ D, D = wordF v := ⟨_, rfl⟩
      rw [← hD] at TKW cW wsz
      clear hv hD hOW hOS
      go_wp2_with fail
      refine (cW.out wr).mono ?_
      rintro e w' ⟨rfl, rfl⟩
      clear cW
      go_wp2_with (at_builtin; refine wpList_append_own_at _ rfl _ _ 53 rfl w1.heap.size 9 j0 (.string ⟨#[]⟩) 1 16 Try.underlying53 hj0 hy0 hy1 hy2 rfl (by decide) _ _ _ rfl (oW.alloc _) ⟨wr.heap.size, 0, none⟩ 1 1 (strC D) rfl rfl (news_at wr (strC D) _) (by simp [strC, Value.oneCell']) (by unfold maxLen; omega) (by omega) (by simp; omega) ?_)
      intro v5 w5 hown hgrow _ hblk
      have ne : u5.ownBlock = none ∨ ∃ j, u5.ownBlock = some j := by cases u5.ownBlock <;> simp
      have oS5 : w5.ownsRow w1.heap.size 3 1 u6 i' ((XS.take i').flatMap intC) := (oS.alloc _).kept hgrow (by
        rcases ne with e | ⟨j, e⟩
        · rw [e]
          cases hU : u6.ownBlock with
          | none => exact .inl rfl
          | some j => exact .inr (by simp)
        · rw [e]
          exact .inr (hap.out j e))
      have ap5 : ∀ j, v5.ownBlock = some j → u6.ownBlock ≠ some j := fun j hj => by
        rcases hblk with h | h
        · rw [h] at hj
          exact hap.out j hj
        · rw [h] at hj
          intro e
          have h2 := (oS.lt j e).2
          simp at hj
          omega
      have B5 := hid ((hb.out.alloc hsz _).grown hgrow (hb.out.alloc hsz _).size (fun j hj => (oW.lt j hj).1))
      have O5 := hid (show w5.ownsRow w1.heap.size 9 1 v5 (i' + 1) ((XW.take (i' + 1)).flatMap strC) by rw [TKW.out]; exact hown)
      have AP5 := hid ap5
      have hsz5 := B5.out.size
      have hu : IntKind.u64.wrap v = v % 18446744073709551616 := rfl
      clear hown hgrow hblk oW oS TKW hap hb ap5 ne
      go_wp2_with (at_builtin; refine wpList_append_own_at _ rfl _ _ 22 rfl w1.heap.size 3 i0 (.int .i64 0) 1 8 Try.underlying22 hi0 hz0 hz1 hz2 rfl (by decide) _ _ _ rfl (oS5.alloc _) ⟨w5.heap.size, 0, none⟩ 1 1 (intC (v % 18446744073709551616 % 3)) rfl rfl (news_at w5 (intC (v % 18446744073709551616 % 3)) _) (by simp [intC, Value.oneCell']) (by unfold maxLen; omega) (by omega) (by simp; omega) ?_)
      intro v6 w6 hown hgrow _ hblk
      have ne : u6.ownBlock = none ∨ ∃ j, u6.ownBlock = some j := by cases u6.ownBlock <;> simp
      have O6 := hid (show w6.ownsRow w1.heap.size 9 1 v5 (i' + 1) ((XW.take (i' + 1)).flatMap strC) from (O5.out.alloc _).kept hgrow (by
        cases hV : v5.ownBlock with
        | none => exact .inl rfl
        | some j => exact .inr (fun e => AP5.out j hV e.symm)))
      have AP6 := hid (show ∀ j, v5.ownBlock = some j → v6.ownBlock ≠ some j from fun j hj => by
        rcases hblk with h | h
        · rw [h]; exact AP5.out j hj
        · rw [h]
          intro e
          have h2 := (O5.out.lt j hj).2
          simp at e
          omega)
      have B6 := hid ((B5.out.alloc hsz5 _).grown hgrow (B5.out.alloc hsz5 _).size (fun j hj => (oS5.lt j hj).1))
      have S6 := hid (show w6.ownsRow w1.heap.size 3 1 v6 (i' + 1) ((XS.take (i' + 1)).flatMap intC) by rw [TKS.out]; exact hown)
      clear hown hgrow hblk oS5 O5 AP5 TKS B5 ne
      go_wp2
      go_roundw
      case rel => exact ⟨_, _, i' + 1, rfl, rfl, by simp, by omega, O6, S6, AP6, B6⟩
      case measure => simp [intOf]; omega
    · obtain rfl : i' = l.length := by omega
      have oW := hOW.out
      have oS := hOS.out
      rw [show XW.take l.length = XW by rw [← LW.out, List.take_length], ← LW.out] at oW
      rw [show XS.take l.length = XS by rw [← LS.out, List.take_length], ← LS.out] at oS
      obtain ⟨aw, cw, e, RW1⟩ := row_own (n := 1) (cells := strC) (ok := fun s : ByteArray => s.size ≤ 9223372036854775807) (hn := fun _ => rfl) oW (fun s hs => by have := SW.out s hs; omega)
      rw [LW.out] at e RW1
      subst e
      obtain ⟨as', cs', e, RS1⟩ := row_own (n := 1) (cells := intC) (ok := I64) (hn := fun _ => rfl) oS SI.out
      rw [LS.out] at e RS1
      subst e
      have q1 := RW1.hcap
      have q2 := RW1.hmax
      have q3 := RS1.hcap
      have q4 := RS1.hmax
      have RW1 := hid (show Row tStr wr aw l.length cw XW from RW1)
      have RS1 := hid RS1
      obtain ⟨wq, hwq⟩ : ∃ W, W = wr := ⟨_, rfl⟩
      have BQ := hid (bel_on B1.out hb.out)
      rw [← hwq] at RW1 RS1 BQ ⊢
      clear oW oS hOW hOS hap hb hwq B1
      go_wp2_with fail
      refine (cOW.out wq aw cw RW1.out).mono ?_
      rintro e w2 ⟨⟨a2, c2, rfl, r2⟩, b2⟩
      have B2 := hid (bel_on BQ.out b2)
      have R2 := hid r2
      have RW2 := hid (RW1.out.on b2)
      have RS2 := hid (RS1.out.on b2)
      clear r2 b2 BQ RW1 RS1
      go_wp2_with fail
      refine (cOS.out w2 as' cs' RS2.out).mono ?_
      rintro e w3 ⟨⟨a3, c3, rfl, r3⟩, b3⟩
      have B3 := hid (bel_on B2.out b3)
      have R3 := hid r3
      have R23 := hid (R2.out.on b3)
      have RW3 := hid (RW2.out.on b3)
      have RS3 := hid (RS2.out.on b3)
      clear r3 b3 B2 R2 RW2 RS2
      go_wp2_with fail
      refine (cMW.out a3 c3 w3 R3.out).mono ?_
      rintro e w4 ⟨⟨a4, c4, rfl, r4⟩, b4⟩
      obtain ⟨w5, hw5⟩ : ∃ W, W = w4.alloc (.cells #[.slice a2 N c2] 58) := ⟨_, rfl⟩
      obtain ⟨k5, hk5⟩ : ∃ k, k = w4.heap.size := ⟨_, rfl⟩
      have b45 : Below w4.heap.size w4 w5 := by rw [hw5]; exact bel_alloc _ _
      have X5 : Box w5 k5 [.slice a2 N c2] := by rw [hw5, hk5]; exact Box.new w4 [.slice a2 N c2] _
      obtain ⟨w6, hw6⟩ : ∃ W, W = w5.alloc (.cells #[.slice a4 N c4] 58) := ⟨_, rfl⟩
      obtain ⟨k6, hk6⟩ : ∃ k, k = w5.heap.size := ⟨_, rfl⟩
      have b56 : Below w5.heap.size w5 w6 := by rw [hw6]; exact bel_alloc _ _
      have X6 : Box w6 k6 [.slice a4 N c4] := by rw [hw6, hk6]; exact Box.new w5 [.slice a4 N c4] _
      have b46 := bel_on b45 b56
      have b36 := bel_on b4 b46
      have HX := hid (fun (W : World) (b : Below w6.heap.size w6 W) => (⟨(X5.on b56).on b, X6.on b, (R23.out.on b36).on b, (r4.on b46).on b, (RW3.out.on b36).on b, (RS3.out.on b36).on b, bel_on (bel_on B3.out b36) b⟩ : Box W k5 [.slice a2 N c2] ∧ Box W k6 [.slice a4 N c4] ∧ Row tRs W a2 N c2 RW ∧ Row tRs W a4 N c4 RW ∧ Row tStr W aw l.length cw XW ∧ Row tInt W as' l.length cs' XS ∧ Below w.heap.size w W))
      have HW := hid (show w6 = (w4.alloc (.cells #[.slice a2 N c2] 58)).alloc (.cells #[.slice a4 N c4] 58) by rw [hw6, hw5])
      have HK5 := hid hk5
      have HK6 := hid (show k6 = w4.heap.size + 1 by rw [hk6, hw5]; simp)
      have B6 := hid (Below.refl w6.heap.size w6)
      clear b4 r4 hw5 hk5 b45 X5 hw6 hk6 b56 X6 b46 b36 B3 R3 R23 RW3 RS3 cOW cMW
      go_upto_region 14 with fail
      rw [← HW.out, ← HK6.out, ← HK5.out]
      clear HW HK5 HK6
      have Y := HX.out w6 B6.out
      have d5 := Y.1.cell 0 _ rfl; have l5 := Y.1.lt; have d6 := Y.2.1.cell 0 _ rfl; have l6 := Y.2.1.lt
      clear Y
      go_wp2_with fail
      refine (cEW.out a2 c2 a4 c4 w6 (HX.out w6 B6.out).2.2.1 (HX.out w6 B6.out).2.2.2.1).mono ?_
      rintro e w7 ⟨rfl, b7⟩
      have B7 := hid b7
      have d5 := (HX.out w7 b7).1.cell 0 _ rfl; have l5 := (HX.out w7 b7).1.lt
      clear cEW b7 d6 l6 B6
      go_wp2_with fail
      refine (cCW.out a2 c2 w7 (HX.out w7 B7.out).2.2.1).mono ?_
      rintro e w8 ⟨rfl, b8⟩
      have B8 := hid (bel_on B7.out b8)
      clear cCW b8 d5 l5 B7
      go_wp2_with fail
      refine (cOS.out w8 as' cs' (HX.out w8 B8.out).2.2.2.2.2.1).mono ?_
      rintro e w9 ⟨⟨a9, c9, rfl, r9⟩, b9⟩
      have B9 := hid (bel_on B8.out b9)
      have R9 := hid r9
      clear cOS b9 r9 B8
      go_wp2_with fail
      refine (cCS.out a9 c9 w9 R9.out).mono ?_
      rintro e w10 ⟨rfl, b10⟩
      have B10 := hid (bel_on B9.out b10)
      clear cCS b10 R9 B9
      go_wp2
      go_loopw [60] (fun i wr => ∃ i' : Nat, i = .int .i64 (i' : Int) ∧ i' ≤ l.length ∧ Hid (Below w6.heap.size w6 wr)) (fun i _ => l.length - (intOf i).toNat)
      case atStart => exact ⟨0, rfl, Nat.zero_le _, B10⟩
      case round =>
        clear B10 hlt hi
        obtain ⟨j, rfl, hj, hb⟩ := hrel
        have Y := HX.out wr hb.out
        by_cases hlt : j < l.length
        · obtain ⟨s, hs⟩ : ∃ s, XW[j]? = some s := ⟨_, List.getElem?_eq_getElem (by rw [LW.out]; exact hlt)⟩
          have gp := GP.out
          have wk : IntKind.i64.wrap (k + (j : Int)) = k + (j : Int) := wrap_l (by unfold I64; omega)
          have c1 := cAW.out (k + (j : Int)) (by unfold Lim; omega) a2 c2 wr Y.2.2.1
          rw [show atL k XW (k + (j : Int)) = some s by
            unfold atL
            rw [if_neg (by omega), show (k + (j : Int) - k).toNat = j by omega, hs]] at c1
          have c1 := hid c1
          have HS := hid hs
          have d5 := Y.1.cell 0 _ rfl; have l5 := Y.1.lt
          clear Y gp hs
          go_wp2_with fail
          refine c1.out.mono ?_
          rintro e w11 ⟨rfl, b11⟩
          have B11 := hid (bel_on hb.out b11)
          obtain ⟨ba, oa, ea, la, q0⟩ := str_at (HX.out w11 B11.out).2.2.2.2.1 HS.out
          subst ea
          rw [show (some s).getD ⟨#[]⟩ = s from rfl, show (some s).isSome = true from rfl]
          have t1 : (s.toList == s.toList) = true := by simp
          clear c1 b11 d5 l5 hb
          go_wp2
          go_roundw
          case rel => exact ⟨j + 1, by simp, by omega, B11⟩
          case measure => simp [intOf]; omega
        · have BF := hid Y.2.2.2.2.2.2
          clear Y hb
          go_wp2
          go_ret
          exact ⟨rfl, BF.out⟩
end Go.Proofs.Ytghhnimimccpoaa.L14
/- Package line, walked: with (a value more behind runs), of numbers, texts and truths. -/
namespace Go.Proofs.Ytghhnimimccpoaa.Li
open Go.RowKit Go.Sort P Mm R6 R14 L14
/-- Runs, and behind them a value from a number to another one; nothing, if that is below it. -/
def withR {α : Type} [DecidableEq α] (rs : List (Rn α)) (r : Rn α) : List (Rn α) := if r.b < r.a then rs else addR rs r
def rbC (r : Rn Bool) : List Value := [.int .i64 r.a, .int .i64 r.b, .bool r.v]
def RbOk (r : Rn Bool) : Prop := I64 r.a ∧ I64 r.b
theorem grown_set (w : World) (g i : Nat) (v : Value) : w.grownBy (w.setCell ⟨g, i, none⟩ v) (some g) :=
  ⟨rfl, rfl, rfl, by simp, fun k _ hne => Below.heap_setCell _ _ _ k (fun e => hne (by rw [e]))⟩
theorem flat_b {α : Type} {c : Rn α → List Value} {f : α → Value} (hc : ∀ r, c r = [.int .i64 r.a, .int .i64 r.b, f r.v]) (ys : List (Rn α)) (z : Rn α) (b : Int) : ((ys ++ [z]).flatMap c).set (ys.length * 3 + 1) (.int .i64 b) = (ys ++ [(⟨z.a, b, z.v⟩ : Rn α)]).flatMap c := by
  have hl : (ys.flatMap c).length = ys.length * 3 := flat_len (f := c) (n := 3) (fun r => by rw [hc]; rfl) _
  rw [List.flatMap_append, List.flatMap_append, List.set_append_right _ _ (by omega), hl, show ys.length * 3 + 1 - ys.length * 3 = 1 by omega]
  simp [hc]
theorem flat_v {α : Type} {c : Rn α → List Value} {f : α → Value} (hc : ∀ r, c r = [.int .i64 r.a, .int .i64 r.b, f r.v]) (ys : List (Rn α)) (z : Rn α) : ((ys ++ [z]).flatMap c)[ys.length * 3 + 2]? = some (f z.v) :=
  flat_get (cells := c) (n := 3) (fun r => by rw [hc]; rfl) (ys ++ [z]) ys.length z 2 _ (by simp) (by rw [hc]; rfl)
theorem info_int : (Try.prog.info? 69).map (fun i => (i.zero, i.size, i.bytes)) = some (some (.agg #[.int .i64 0, .int .i64 0, .int .i64 0]), 3, 24) := by kernel_rfl
set_option maxHeartbeats 1600000 in
set_option maxRecDepth 100000 in
theorem with_int (rs : List (Rn Int)) (V : Value) (n0 N : Nat) (a b : Int) (x : Int) (w : World) (hN : N = rs.length) (oo : w.ownsRow n0 69 3 V N (rs.flatMap rnC)) (hok : ∀ r ∈ rs, RnOk r) (hs : n0 ≤ w.heap.size) (hl : N ≤ 1000000) :
    Calls Try.prog 35 #[V, .int .i64 a, .int .i64 b, .int .i64 x] w fun e w' => ∃ V' M, e = .returned V' ∧ M = (withR rs ⟨a, b, x⟩).length ∧ w'.ownsRow n0 69 3 V' M ((withR rs ⟨a, b, x⟩).flatMap rnC) ∧ w.grownBy w' V.ownBlock := by
  have hr : w.ownsRow n0 69 3 V rs.length (rs.flatMap rnC) := hN ▸ oo
  obtain ⟨ao, cap, e, R⟩ := row_own (n := 3) (cells := rnC) (ok := RnOk) (hn := fun _ => rfl) hr hok
  have lm := R.hmax
  have lc := R.hcap
  rw [← hN] at e lc
  subst e
  have wk : IntKind.i64.wrap ((N : Int) - 1) = (N : Int) - 1 := wrap_l (by unfold I64; omega)
  obtain ⟨i0, hi0, hz0, hz1, hz2⟩ := info_parts info_int
  clear hr R
  by_cases hba : b < a
  · have z : decide (b < a) = true := decide_eq_true hba
    have EW := hid (show withR rs ⟨a, b, x⟩ = rs by unfold withR; rw [if_pos hba])
    have O := hid oo
    have HN := hid hN
    clear oo hN hba wk
    go_enter Try.func35, Try.ntmps35
    go_wp2
    go_ret
    exact ⟨_, N, rfl, by rw [EW.out]; exact HN.out, by rw [EW.out]; exact O.out, .refl _ _⟩
  · have z : decide (b < a) = false := decide_eq_false hba
    have EW := show withR rs ⟨a, b, x⟩ = addR rs ⟨a, b, x⟩ by unfold withR; rw [if_neg hba]
    rcases List.eq_nil_or_concat rs with hnil | ⟨ys, zz, hcat⟩
    · subst hnil
      have N0 : N = 0 := hN
      subst N0
      have EW2 := hid (show withR [] ⟨a, b, x⟩ = [⟨a, b, x⟩] by rw [EW]; rfl)
      have O := hid oo
      have HS := hid hs
      clear oo hN hba EW hok hs
      go_enter Try.func35, Try.ntmps35
      go_wp2_with (at_builtin; refine wpList_append_own _ rfl _ _ 25 rfl n0 69 i0 (.agg #[.int .i64 0, .int .i64 0, .int .i64 0]) 3 24 Try.underlying25 hi0 hz0 hz1 hz2 rfl (by decide) _ _ _ rfl (O.out.alloc _) ⟨w.heap.size, 0, none⟩ 1 1 (rnC ⟨a, b, x⟩) rfl rfl (news_at w (rnC ⟨a, b, x⟩) _) (by simp [rnC, Value.oneCell']) (by unfold maxLen; omega) (by omega) (by have := HS.out; simp; omega) ?_)
      intro v5 w5 hown hgrow _
      have O5 := hid hown
      have G5 := hid (grown_unalloc hgrow)
      clear hown hgrow
      go_wp2
      go_ret
      exact ⟨_, 1, rfl, by rw [EW2.out]; rfl, by rw [EW2.out]; exact O5.out, G5.out⟩
    · rw [List.concat_eq_append] at hcat
      subst hcat
      obtain ⟨m, hm⟩ : ∃ m, m = ys.length := ⟨_, rfl⟩
      have N1 : N = m + 1 := by rw [hN, hm]; simp
      subst N1
      obtain ⟨g, cp, e, lg0, lg⟩ := oo.form (by omega)
      simp only [Value.slice.injEq] at e
      obtain ⟨rfl, -, rfl⟩ := e
      obtain ⟨p, hp⟩ : ∃ p, p = zz.v := ⟨_, rfl⟩
      have m0 : w.cell? ⟨g, m * 3 + 2, none⟩ = some (.int .i64 p) := by rw [oo.cellAt _ (by omega), hm, flat_v (c := rnC) (f := fun v => .int .i64 v) (fun _ => rfl), hp]
      have m1 : w.frozen? ⟨g, m * 3 + 1, none⟩ = false := oo.frozenAt _
      have mI : (m : Int) < (m : Int) + 1 := by omega
      have mI0 : (0 : Int) ≤ (m : Int) := by omega
      have wk2 : IntKind.i64.wrap ((m : Int) + 1 - 1) = (m : Int) := by rw [show (m : Int) + 1 - 1 = (m : Int) by omega]; exact wrap_l (by unfold I64; omega)
      by_cases hpv : p = x
      · have z1 : (p == x) = true := by rw [hpv]; simp
        have EW2 := hid (show withR (ys ++ [zz]) ⟨a, b, x⟩ = ys ++ [⟨zz.a, b, zz.v⟩] by rw [EW, add_same (by rw [← hp]; exact hpv)])
        have O2 := hid (show (w.setCell ⟨g, m * 3 + 1, none⟩ (.int .i64 b)).ownsRow n0 69 3 (.slice (some ⟨g, 0, none⟩) (m + 1) cap) (m + 1) ((ys ++ [(⟨zz.a, b, zz.v⟩ : Rn Int)]).flatMap rnC) by
          have h := (oo.stored (m * 3 + 1) (.int .i64 b)).1
          rw [hm, flat_b (c := rnC) (f := fun v => .int .i64 v) (fun _ => rfl)] at h
          rw [hm]
          exact h)
        have HM := hid hm
        have m2 : ∃ u, w.cell? ⟨g, m * 3 + 1, none⟩ = some u := ⟨.int .i64 zz.b, by
          rw [oo.cellAt _ (by omega), hm]
          exact flat_get (cells := rnC) (n := 3) (fun _ => rfl) (ys ++ [zz]) ys.length zz 1 _ (by simp) rfl⟩
        obtain ⟨u, m2⟩ := m2
        clear oo hN hba EW hok hs hpv hm hp wk
        go_enter Try.func35, Try.ntmps35
        go_wp2
        go_ret
        exact ⟨_, m + 1, rfl, by rw [EW2.out, HM.out]; simp, by rw [EW2.out]; exact O2.out, grown_set _ _ _ _⟩
      · have z1 : (p == x) = false := by rw [beq_eq_false_iff_ne]; exact hpv
        have EW2 := hid (show withR (ys ++ [zz]) ⟨a, b, x⟩ = (ys ++ [zz]) ++ [⟨a, b, x⟩] by rw [EW, add_new (by rw [← hp]; exact hpv)])
        have HM := hid hm
        have O := hid oo
        have HS := hid hs
        clear oo hN hba EW hok hs hpv hm hp wk
        go_enter Try.func35, Try.ntmps35
        go_wp2_with (at_builtin; refine wpList_append_own _ rfl _ _ 25 rfl n0 69 i0 (.agg #[.int .i64 0, .int .i64 0, .int .i64 0]) 3 24 Try.underlying25 hi0 hz0 hz1 hz2 rfl (by decide) _ _ _ rfl (O.out.alloc _) ⟨w.heap.size, 0, none⟩ 1 1 (rnC ⟨a, b, x⟩) rfl rfl (news_at w (rnC ⟨a, b, x⟩) _) (by simp [rnC, Value.oneCell']) (by unfold maxLen; omega) (by omega) (by have := HS.out; simp; omega) ?_)
        intro v5 w5 hown hgrow _
        have O5 := hid (show w5.ownsRow n0 69 3 v5 (m + 1 + 1) ((ys ++ [zz] ++ [(⟨a, b, x⟩ : Rn Int)]).flatMap rnC) by
          rw [List.flatMap_append]
          simpa using hown)
        have G5 := hid (grown_unalloc hgrow)
        clear hown hgrow
        go_wp2
        go_ret
        exact ⟨_, m + 1 + 1, rfl, by rw [EW2.out, HM.out]; simp, by rw [EW2.out]; exact O5.out, G5.out⟩
theorem info_string : (Try.prog.info? 84).map (fun i => (i.zero, i.size, i.bytes)) = some (some (.agg #[.int .i64 0, .int .i64 0, .string ⟨#[]⟩]), 3, 32) := by kernel_rfl
set_option maxHeartbeats 1600000 in
set_option maxRecDepth 100000 in
theorem with_string (rs : List (Rn ByteArray)) (V : Value) (n0 N : Nat) (a b : Int) (x : ByteArray) (w : World) (hN : N = rs.length) (oo : w.ownsRow n0 84 3 V N (rs.flatMap rsC)) (hok : ∀ r ∈ rs, RsOk r) (hs : n0 ≤ w.heap.size) (hl : N ≤ 1000000) :
    Calls Try.prog 44 #[V, .int .i64 a, .int .i64 b, .string x] w fun e w' => ∃ V' M, e = .returned V' ∧ M = (withR rs ⟨a, b, x⟩).length ∧ w'.ownsRow n0 84 3 V' M ((withR rs ⟨a, b, x⟩).flatMap rsC) ∧ w.grownBy w' V.ownBlock := by
  have hr : w.ownsRow n0 84 3 V rs.length (rs.flatMap rsC) := hN ▸ oo
  obtain ⟨ao, cap, e, R⟩ := row_own (n := 3) (cells := rsC) (ok := RsOk) (hn := fun _ => rfl) hr hok
  have lm := R.hmax
  have lc := R.hcap
  rw [← hN] at e lc
  subst e
  have wk : IntKind.i64.wrap ((N : Int) - 1) = (N : Int) - 1 := wrap_l (by unfold I64; omega)
  obtain ⟨i0, hi0, hz0, hz1, hz2⟩ := info_parts info_string
  clear hr R
  by_cases hba : b < a
  · have z : decide (b < a) = true := decide_eq_true hba
    have EW := hid (show withR rs ⟨a, b, x⟩ = rs by unfold withR; rw [if_pos hba])
    have O := hid oo
    have HN := hid hN
    clear oo hN hba wk
    go_enter Try.func44, Try.ntmps44
    go_wp2
    go_ret
    exact ⟨_, N, rfl, by rw [EW.out]; exact HN.out, by rw [EW.out]; exact O.out, .refl _ _⟩
  · have z : decide (b < a) = false := decide_eq_false hba
    have EW := show withR rs ⟨a, b, x⟩ = addR rs ⟨a, b, x⟩ by unfold withR; rw [if_neg hba]
    rcases List.eq_nil_or_concat rs with hnil | ⟨ys, zz, hcat⟩
    · subst hnil
      have N0 : N = 0 := hN
      subst N0
      have EW2 := hid (show withR [] ⟨a, b, x⟩ = [⟨a, b, x⟩] by rw [EW]; rfl)
      have O := hid oo
      have HS := hid hs
      clear oo hN hba EW hok hs
      go_enter Try.func44, Try.ntmps44
      go_wp2_with (at_builtin; refine wpList_append_own _ rfl _ _ 56 rfl n0 84 i0 (.agg #[.int .i64 0, .int .i64 0, .string ⟨#[]⟩]) 3 32 Try.underlying56 hi0 hz0 hz1 hz2 rfl (by decide) _ _ _ rfl (O.out.alloc _) ⟨w.heap.size, 0, none⟩ 1 1 (rsC ⟨a, b, x⟩) rfl rfl (news_at w (rsC ⟨a, b, x⟩) _) (by simp [rsC, Value.oneCell']) (by unfold maxLen; omega) (by omega) (by have := HS.out; simp; omega) ?_)
      intro v5 w5 hown hgrow _
      have O5 := hid hown
      have G5 := hid (grown_unalloc hgrow)
      clear hown hgrow
      go_wp2
      go_ret
      exact ⟨_, 1, rfl, by rw [EW2.out]; rfl, by rw [EW2.out]; exact O5.out, G5.out⟩
    · rw [List.concat_eq_append] at hcat
      subst hcat
      obtain ⟨m, hm⟩ : ∃ m, m = ys.length := ⟨_, rfl⟩
      have N1 : N = m + 1 := by rw [hN, hm]; simp
      subst N1
      obtain ⟨g, cp, e, lg0, lg⟩ := oo.form (by omega)
      simp only [Value.slice.injEq] at e
      obtain ⟨rfl, -, rfl⟩ := e
      obtain ⟨p, hp⟩ : ∃ p, p = zz.v := ⟨_, rfl⟩
      have m0 : w.cell? ⟨g, m * 3 + 2, none⟩ = some (.string p) := by rw [oo.cellAt _ (by omega), hm, flat_v (c := rsC) (f := fun v => .string v) (fun _ => rfl), hp]
      have m1 : w.frozen? ⟨g, m * 3 + 1, none⟩ = false := oo.frozenAt _
      have mI : (m : Int) < (m : Int) + 1 := by omega
      have mI0 : (0 : Int) ≤ (m : Int) := by omega
      have wk2 : IntKind.i64.wrap ((m : Int) + 1 - 1) = (m : Int) := by rw [show (m : Int) + 1 - 1 = (m : Int) by omega]; exact wrap_l (by unfold I64; omega)
      by_cases hpv : p = x
      · have z1 : (p.toList == x.toList) = true := R6.beq_str.2 hpv
        have EW2 := hid (show withR (ys ++ [zz]) ⟨a, b, x⟩ = ys ++ [⟨zz.a, b, zz.v⟩] by rw [EW, add_same (by rw [← hp]; exact hpv)])
        have O2 := hid (show (w.setCell ⟨g, m * 3 + 1, none⟩ (.int .i64 b)).ownsRow n0 84 3 (.slice (some ⟨g, 0, none⟩) (m + 1) cap) (m + 1) ((ys ++ [(⟨zz.a, b, zz.v⟩ : Rn ByteArray)]).flatMap rsC) by
          have h := (oo.stored (m * 3 + 1) (.int .i64 b)).1
          rw [hm, flat_b (c := rsC) (f := fun v => .string v) (fun _ => rfl)] at h
          rw [hm]
          exact h)
        have HM := hid hm
        have m2 : ∃ u, w.cell? ⟨g, m * 3 + 1, none⟩ = some u := ⟨.int .i64 zz.b, by
          rw [oo.cellAt _ (by omega), hm]
          exact flat_get (cells := rsC) (n := 3) (fun _ => rfl) (ys ++ [zz]) ys.length zz 1 _ (by simp) rfl⟩
        obtain ⟨u, m2⟩ := m2
        clear oo hN hba EW hok hs hpv hm hp wk
        go_enter Try.func44, Try.ntmps44
        go_wp2
        go_ret
        exact ⟨_, m + 1, rfl, by rw [EW2.out, HM.out]; simp, by rw [EW2.out]; exact O2.out, grown_set _ _ _ _⟩
      · have z1 : (p.toList == x.toList) = false := by rw [Bool.eq_false_iff]; exact fun h => hpv (R6.beq_str.1 h)
        have EW2 := hid (show withR (ys ++ [zz]) ⟨a, b, x⟩ = (ys ++ [zz]) ++ [⟨a, b, x⟩] by rw [EW, add_new (by rw [← hp]; exact hpv)])
        have HM := hid hm
        have O := hid oo
        have HS := hid hs
        clear oo hN hba EW hok hs hpv hm hp wk
        go_enter Try.func44, Try.ntmps44
        go_wp2_with (at_builtin; refine wpList_append_own _ rfl _ _ 56 rfl n0 84 i0 (.agg #[.int .i64 0, .int .i64 0, .string ⟨#[]⟩]) 3 32 Try.underlying56 hi0 hz0 hz1 hz2 rfl (by decide) _ _ _ rfl (O.out.alloc _) ⟨w.heap.size, 0, none⟩ 1 1 (rsC ⟨a, b, x⟩) rfl rfl (news_at w (rsC ⟨a, b, x⟩) _) (by simp [rsC, Value.oneCell']) (by unfold maxLen; omega) (by omega) (by have := HS.out; simp; omega) ?_)
        intro v5 w5 hown hgrow _
        have O5 := hid (show w5.ownsRow n0 84 3 v5 (m + 1 + 1) ((ys ++ [zz] ++ [(⟨a, b, x⟩ : Rn ByteArray)]).flatMap rsC) by
          rw [List.flatMap_append]
          simpa using hown)
        have G5 := hid (grown_unalloc hgrow)
        clear hown hgrow
        go_wp2
        go_ret
        exact ⟨_, m + 1 + 1, rfl, by rw [EW2.out, HM.out]; simp, by rw [EW2.out]; exact O5.out, G5.out⟩
theorem info_bool : (Try.prog.info? 89).map (fun i => (i.zero, i.size, i.bytes)) = some (some (.agg #[.int .i64 0, .int .i64 0, .bool false]), 3, 24) := by kernel_rfl
set_option maxHeartbeats 1600000 in
set_option maxRecDepth 100000 in
theorem with_bool (rs : List (Rn Bool)) (V : Value) (n0 N : Nat) (a b : Int) (x : Bool) (w : World) (hN : N = rs.length) (oo : w.ownsRow n0 89 3 V N (rs.flatMap rbC)) (hok : ∀ r ∈ rs, RbOk r) (hs : n0 ≤ w.heap.size) (hl : N ≤ 1000000) :
    Calls Try.prog 39 #[V, .int .i64 a, .int .i64 b, .bool x] w fun e w' => ∃ V' M, e = .returned V' ∧ M = (withR rs ⟨a, b, x⟩).length ∧ w'.ownsRow n0 89 3 V' M ((withR rs ⟨a, b, x⟩).flatMap rbC) ∧ w.grownBy w' V.ownBlock := by
  have hr : w.ownsRow n0 89 3 V rs.length (rs.flatMap rbC) := hN ▸ oo
  obtain ⟨ao, cap, e, R⟩ := row_own (n := 3) (cells := rbC) (ok := RbOk) (hn := fun _ => rfl) hr hok
  have lm := R.hmax
  have lc := R.hcap
  rw [← hN] at e lc
  subst e
  have wk : IntKind.i64.wrap ((N : Int) - 1) = (N : Int) - 1 := wrap_l (by unfold I64; omega)
  obtain ⟨i0, hi0, hz0, hz1, hz2⟩ := info_parts info_bool
  clear hr R
  by_cases hba : b < a
  · have z : decide (b < a) = true := decide_eq_true hba
    have EW := hid (show withR rs ⟨a, b, x⟩ = rs by unfold withR; rw [if_pos hba])
    have O := hid oo
    have HN := hid hN
    clear oo hN hba wk
    go_enter Try.func39, Try.ntmps39
    go_wp2
    go_ret
    exact ⟨_, N, rfl, by rw [EW.out]; exact HN.out, by rw [EW.out]; exact O.out, .refl _ _⟩
  · have z : decide (b < a) = false := decide_eq_false hba
    have EW := show withR rs ⟨a, b, x⟩ = addR rs ⟨a, b, x⟩ by unfold withR; rw [if_neg hba]
    rcases List.eq_nil_or_concat rs with hnil | ⟨ys, zz, hcat⟩
    · subst hnil
      have N0 : N = 0 := hN
      subst N0
      have EW2 := hid (show withR [] ⟨a, b, x⟩ = [⟨a, b, x⟩] by rw [EW]; rfl)
      have O := hid oo
      have HS := hid hs
      clear oo hN hba EW hok hs
      go_enter Try.func39, Try.ntmps39
      go_wp2_with (at_builtin; refine wpList_append_own _ rfl _ _ 72 rfl n0 89 i0 (.agg #[.int .i64 0, .int .i64 0, .bool false]) 3 24 Try.underlying72 hi0 hz0 hz1 hz2 rfl (by decide) _ _ _ rfl (O.out.alloc _) ⟨w.heap.size, 0, none⟩ 1 1 (rbC ⟨a, b, x⟩) rfl rfl (news_at w (rbC ⟨a, b, x⟩) _) (by simp [rbC, Value.oneCell']) (by unfold maxLen; omega) (by omega) (by have := HS.out; simp; omega) ?_)
      intro v5 w5 hown hgrow _
      have O5 := hid hown
      have G5 := hid (grown_unalloc hgrow)
      clear hown hgrow
      go_wp2
      go_ret
      exact ⟨_, 1, rfl, by rw [EW2.out]; rfl, by rw [EW2.out]; exact O5.out, G5.out⟩
    · rw [List.concat_eq_append] at hcat
      subst hcat
      obtain ⟨m, hm⟩ : ∃ m, m = ys.length := ⟨_, rfl⟩
      have N1 : N = m + 1 := by rw [hN, hm]; simp
      subst N1
      obtain ⟨g, cp, e, lg0, lg⟩ := oo.form (by omega)
      simp only [Value.slice.injEq] at e
      obtain ⟨rfl, -, rfl⟩ := e
      obtain ⟨p, hp⟩ : ∃ p, p = zz.v := ⟨_, rfl⟩
      have m0 : w.cell? ⟨g, m * 3 + 2, none⟩ = some (.bool p) := by rw [oo.cellAt _ (by omega), hm, flat_v (c := rbC) (f := fun v => .bool v) (fun _ => rfl), hp]
      have m1 : w.frozen? ⟨g, m * 3 + 1, none⟩ = false := oo.frozenAt _
      have mI : (m : Int) < (m : Int) + 1 := by omega
      have mI0 : (0 : Int) ≤ (m : Int) := by omega
      have wk2 : IntKind.i64.wrap ((m : Int) + 1 - 1) = (m : Int) := by rw [show (m : Int) + 1 - 1 = (m : Int) by omega]; exact wrap_l (by unfold I64; omega)
      by_cases hpv : p = x
      · have z1 : (p == x) = true := by rw [hpv]; simp
        have EW2 := hid (show withR (ys ++ [zz]) ⟨a, b, x⟩ = ys ++ [⟨zz.a, b, zz.v⟩] by rw [EW, add_same (by rw [← hp]; exact hpv)])
        have O2 := hid (show (w.setCell ⟨g, m * 3 + 1, none⟩ (.int .i64 b)).ownsRow n0 89 3 (.slice (some ⟨g, 0, none⟩) (m + 1) cap) (m + 1) ((ys ++ [(⟨zz.a, b, zz.v⟩ : Rn Bool)]).flatMap rbC) by
          have h := (oo.stored (m * 3 + 1) (.int .i64 b)).1
          rw [hm, flat_b (c := rbC) (f := fun v => .bool v) (fun _ => rfl)] at h
          rw [hm]
          exact h)
        have HM := hid hm
        have m2 : ∃ u, w.cell? ⟨g, m * 3 + 1, none⟩ = some u := ⟨.int .i64 zz.b, by
          rw [oo.cellAt _ (by omega), hm]
          exact flat_get (cells := rbC) (n := 3) (fun _ => rfl) (ys ++ [zz]) ys.length zz 1 _ (by simp) rfl⟩
        obtain ⟨u, m2⟩ := m2
        clear oo hN hba EW hok hs hpv hm hp wk
        go_enter Try.func39, Try.ntmps39
        go_wp2
        go_ret
        exact ⟨_, m + 1, rfl, by rw [EW2.out, HM.out]; simp, by rw [EW2.out]; exact O2.out, grown_set _ _ _ _⟩
      · have z1 : (p == x) = false := by rw [beq_eq_false_iff_ne]; exact hpv
        have EW2 := hid (show withR (ys ++ [zz]) ⟨a, b, x⟩ = (ys ++ [zz]) ++ [⟨a, b, x⟩] by rw [EW, add_new (by rw [← hp]; exact hpv)])
        have HM := hid hm
        have O := hid oo
        have HS := hid hs
        clear oo hN hba EW hok hs hpv hm hp wk
        go_enter Try.func39, Try.ntmps39
        go_wp2_with (at_builtin; refine wpList_append_own _ rfl _ _ 72 rfl n0 89 i0 (.agg #[.int .i64 0, .int .i64 0, .bool false]) 3 24 Try.underlying72 hi0 hz0 hz1 hz2 rfl (by decide) _ _ _ rfl (O.out.alloc _) ⟨w.heap.size, 0, none⟩ 1 1 (rbC ⟨a, b, x⟩) rfl rfl (news_at w (rbC ⟨a, b, x⟩) _) (by simp [rbC, Value.oneCell']) (by unfold maxLen; omega) (by omega) (by have := HS.out; simp; omega) ?_)
        intro v5 w5 hown hgrow _
        have O5 := hid (show w5.ownsRow n0 89 3 v5 (m + 1 + 1) ((ys ++ [zz] ++ [(⟨a, b, x⟩ : Rn Bool)]).flatMap rbC) by
          rw [List.flatMap_append]
          simpa using hown)
        have G5 := hid (grown_unalloc hgrow)
        clear hown hgrow
        go_wp2
        go_ret
        exact ⟨_, m + 1 + 1, rfl, by rw [EW2.out, HM.out]; simp, by rw [EW2.out]; exact O5.out, G5.out⟩
end Go.Proofs.Ytghhnimimccpoaa.Li

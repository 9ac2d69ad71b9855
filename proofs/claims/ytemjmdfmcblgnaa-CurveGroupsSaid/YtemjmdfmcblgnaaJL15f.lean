/- CurveGroups (layer 15): groups lie one behind the other. -/
import Derived.Test.YtemjmdfmcblgnaaJCurR
import Derived.Test.YtemjmdfmcblgnaaJL15d
namespace Go.Proofs.Ytemjmdfmcblgnaa.P
end Go.Proofs.Ytemjmdfmcblgnaa.P
namespace Go.Proofs.Ytemjmdfmcblgnaa.Mm
end Go.Proofs.Ytemjmdfmcblgnaa.Mm
namespace Go.Proofs.Ytemjmdfmcblgnaa.R6
end Go.Proofs.Ytemjmdfmcblgnaa.R6
namespace Go.Proofs.Ytemjmdfmcblgnaa.R14
end Go.Proofs.Ytemjmdfmcblgnaa.R14
namespace Go.Proofs.Ytemjmdfmcblgnaa.L14
end Go.Proofs.Ytemjmdfmcblgnaa.L14
namespace Go.Proofs.Ytemjmdfmcblgnaa.L15
open Go.RowKit Go.Sort P Mm R6 R14 L14
set_option maxHeartbeats 4000000 in
set_option maxRecDepth 100000 in
theorem groups_walk (S : LnO) (C : Cu) (l : List Int) (ao : Option Addr) (cap : Nat) (w : World) (hl : Row tInt w ao l.length cap l) :
    Calls Try.prog 6 #[.slice ao l.length cap] w fun e w' => e = .returned (.bool true) ∧ Below w.heap.size w w' := by
  have cA := hid (alive_any S C w)
  have lm := hl.hmax
  have lc := hl.hcap
  have HL := hid (fun (W : World) (b : Below w.heap.size w W) => hl.on b)
  have HV := hid (row_vals hl)
  clear hl
  go_enter Try.func6, Try.ntmps6
  go_wp2_with fail
  refine cA.out.mono ?_
  rintro e w1 ⟨rfl, b1⟩
  have B1 := hid b1
  clear b1 cA
  by_cases h1 : 2001 < l.length
  · have z1 : decide ((2001 : Int) < (l.length : Int)) = true := decide_eq_true (by omega)
    go_wp2
    go_ret
    exact ⟨rfl, B1.out⟩
  have z1 : decide ((2001 : Int) < (l.length : Int)) = false := decide_eq_false (by omega)
  have hp : Ply 0 l := ply_of (by decide) (by decide) (by omega) HV.out
  have cO := hid (S.of 0 l ao cap w1 (HL.out w1 B1.out) (by decide) (by decide) (by omega))
  have cC := fun a2 c2 W h => C.of 0 l a2 c2 W h hp (by omega)
  unfold ofM ofG at cC
  rw [ofB_0] at cC
  have LL : l.length ≤ 2001 := by omega
  clear hp h1
  go_wp2_with fail
  refine cO.out.mono ?_
  rintro e w2 ⟨⟨a2, c2, rfl, r2⟩, b2⟩
  have B2 := hid (bel_on B1.out b2)
  have cD := cC a2 c2 w2 r2
  clear b2 r2 cO B1 cC
  obtain ⟨Q, hQ⟩ : ∃ Q, Q = curB l := ⟨_, rfl⟩
  rw [← hQ] at cD
  cases Q with
  | false =>
    have qD := hid (show Calls Try.prog 9 #[.agg #[.slice a2 (runsF 0 l).length c2]] w2 fun e w' => (∃ ao' cap', e = .returned (.tuple #[.agg #[.int .i64 0, .slice ao' 0 cap'], .bool false]) ∧ Row tGp w' ao' 0 cap' []) ∧ Below w2.heap.size w2 w' from cD)
    clear hQ cD
    go_wp2_with fail
    refine qD.out.mono ?_
    rintro e w4 ⟨⟨a4, c4, rfl, r4⟩, b4⟩
    have B4 := hid (bel_on (bel_on B2.out b4) (bel_alloc w4 (.cells #[.int .i64 0, .slice a4 0 c4] 26)))
    clear qD r4 b4
    go_wp2
    go_ret
    exact ⟨rfl, B4.out⟩
  | true =>
    have hc : curB l = true := hQ.symm
    obtain ⟨n0, -, vb⟩ := R15.cur_vals hc
    have OK := hid (okG_cur (l := l) (fun r hr => R15.runs_val l 0 r hr))
    have GOK := hid (R15.cur_ok hc)
    have GLW := hid (R15.cur_low hc)
    have GH := hid (R15.cur_hd n0)
    have GL := R15.cur_len l
    have VB := hid vb
    obtain ⟨G, hG⟩ : ∃ G, G = curG l := ⟨_, rfl⟩
    rw [← hG] at OK GOK GLW GH GL
    have qD := hid (show Calls Try.prog 9 #[.agg #[.slice a2 (runsF 0 l).length c2]] w2 fun e w' => (∃ ao' cap', e = .returned (.tuple #[.agg #[.int .i64 ((l.length : Int) - 1), .slice ao' G.length cap'], .bool true]) ∧ Row tGp w' ao' G.length cap' G) ∧ Below w2.heap.size w2 w' by rw [hG]; exact cD)
    clear hQ hc vb hG cD
    go_wp2_with fail
    refine qD.out.mono ?_
    rintro e w3 ⟨⟨a3, c3, rfl, r3⟩, b3⟩
    obtain ⟨w4, hw4⟩ : ∃ W, W = w3.alloc (.cells #[.int .i64 ((l.length : Int) - 1), .slice a3 G.length c3] 26) := ⟨_, rfl⟩
    obtain ⟨k4, hk4⟩ : ∃ k, k = w3.heap.size := ⟨_, rfl⟩
    have b34 : Below w3.heap.size w3 w4 := by rw [hw4]; exact bel_alloc _ _
    have X4 : Box w4 k4 [.int .i64 ((l.length : Int) - 1), .slice a3 G.length c3] := by rw [hw4, hk4]; exact Box.new w3 [.int .i64 ((l.length : Int) - 1), .slice a3 G.length c3] _
    have B04 := bel_on (bel_on B2.out b3) b34
    have HX := hid (fun (W : World) (b : Below w4.heap.size w4 W) => (⟨X4.on b, (r3.on b34).on b, bel_on B04 b⟩ : Box W k4 [.int .i64 ((l.length : Int) - 1), .slice a3 G.length c3] ∧ Row tGp W a3 G.length c3 G ∧ Below w.heap.size w W))
    have B4 := hid (Below.refl w4.heap.size w4)
    have x0 := X4.cell 0 _ rfl; have x1 := X4.cell 1 _ rfl; have l4 := X4.lt
    have gm := r3.hmax
    have gc := r3.hcap
    have HW := hid hw4
    have HK := hid hk4
    clear qD r3 b3 hw4 hk4 b34 X4 B04 B2
    go_upto_region 6 with fail
    rw [← HW.out, ← HK.out]
    clear HW HK
    go_wp2
    clear x0 x1 l4 z1
    go_loopw [5, 26] (fun v5 v26 wr => ∃ (i' : Nat) (A : Int), v5 = .int .i64 A ∧ v26 = .int .i64 (i' : Int) ∧ i' ≤ G.length ∧ Hid (okG l A (G.drop i')) ∧ Hid (Below w4.heap.size w4 wr)) (fun _ i _ => G.length - (intOf i).toNat)
    case atStart => exact ⟨0, 0, rfl, rfl, Nat.zero_le _, OK, B4⟩
    case round =>
      clear B4
      obtain ⟨i', A, rfl, rfl, hi, hO, hb⟩ := hrel
      by_cases hlt : i' < G.length
      · obtain ⟨g, hg⟩ : ∃ g, G[i']? = some g := ⟨_, List.getElem?_eq_getElem hlt⟩
        obtain ⟨p1, p2, p3⟩ := HX.out wr hb.out
        obtain ⟨gb, go', eg, -, g0, g1, g2, g3, g4, gok⟩ := gp_at p2 hg
        subst eg
        have ok := hO.out
        rw [List.drop_eq_getElem_cons hlt, show G[i'] = g from (List.getElem?_eq_some_iff.1 hg).2] at ok
        obtain ⟨o1, o2, o3, t4, t5⟩ := ok
        have o4 := hid t4; have o5 := hid t5
        clear t4 t5
        have x1 := p1.cell 1 _ rfl; have l4 := p1.lt
        obtain ⟨w9, hw9⟩ : ∃ W, W = wr.alloc (.cells #[.int .i64 g.f, .int .i64 g.v, .int .i64 g.w, .int .i64 g.r, .int .i64 g.c] 45) := ⟨_, rfl⟩
        obtain ⟨k9, hk9⟩ : ∃ k, k = wr.heap.size := ⟨_, rfl⟩
        have b9 : Below wr.heap.size wr w9 := by rw [hw9]; exact bel_alloc _ _
        have X9 : Box w9 k9 (gpC g) := by rw [hw9, hk9]; exact Box.new wr (gpC g) _
        have b49 := bel_on hb.out b9
        have HX9 := hid (fun (W : World) (k : Below w9.heap.size w9 W) => (⟨X9.on k, bel_on b49 k⟩ : Box W k9 (gpC g) ∧ Below w4.heap.size w4 W))
        have B9 := hid (Below.refl w9.heap.size w9)
        have q1 := (HX.out w9 b49).1.cell 1 _ rfl; have m4 := (HX.out w9 b49).1.lt
        have d0 := X9.cell 0 _ rfl; have d2 := X9.cell 2 _ rfl; have d3 := X9.cell 3 _ rfl; have d4 := X9.cell 4 _ rfl; have l9 := X9.lt
        have HW := hid hw9
        have HK := hid hk9
        have i1 : (i' : Int) < (G.length : Int) := by omega
        have wi : IntKind.i64.wrap ((i' : Int) + 1) = (i' : Int) + 1 := wrap_l (by unfold I64; omega)
        have A0 : ((i' : Int) == 0) = true ∧ (g.f != 0) = false ∨ ((i' : Int) == 0) = false ∧ True := by
          by_cases h : i' = 0
          · subst h
            obtain ⟨g', e1, e2⟩ := GH.out
            rw [hg] at e1
            obtain rfl := Option.some.inj e1
            exact .inl ⟨rfl, by rw [e2]; rfl⟩
          · exact .inr ⟨by rw [beq_eq_false_iff_ne]; omega, trivial⟩
        have A1 : decide (g.c < 2) = true ∧ decide ((i' : Int) + 1 < (G.length : Int)) = false ∧ (g.c == 1) = true ∧ (g.w != 0) = false ∧ (g.r != 0) = false ∧ decide (1 < g.c) = false ∧ True ∨ decide (g.c < 2) = false ∧ True ∧ (g.c == 1) = false ∧ True ∧ (g.r == 0) = false ∧ decide (1 < g.c) = true ∧ decide (g.w < 1) = false := by
          rcases o3 with ⟨e1, e2, e3, e4⟩ | ⟨e1, e2, e3⟩
          · have := congrArg List.length e4
            rw [List.length_drop, List.length_nil] at this
            exact .inl ⟨decide_eq_true (by omega), decide_eq_false (by omega), by rw [e1]; rfl, by rw [e2]; rfl, by rw [e3]; rfl, decide_eq_false (by omega), trivial⟩
          · exact .inr ⟨decide_eq_false (by omega), trivial, by rw [beq_eq_false_iff_ne]; omega, trivial, by rw [beq_eq_false_iff_ne]; exact e3, decide_eq_true (by omega), decide_eq_false (by omega)⟩
        have z1 : decide (g.f < A) = false := decide_eq_false (by omega)
        have gc1 : 1 ≤ g.c := by rcases o3 with ⟨e1, -⟩ | ⟨e1, -⟩ <;> omega
        have G4 := hid gok
        have fl := (GLW.out g (List.mem_of_getElem? hg)).2.1
        have cmax : g.c ≤ 9223372036854775807 := by have := gok.2.2.2.2; unfold I64 at this; exact this.2
        have FV := hid (show -2305843009213693952 ≤ g.v ∧ g.v ≤ 2305843009213693952 from VB.out g.v (by
          have := (o4.out 0 (by omega)).2
          simp at this
          exact List.mem_of_getElem? this))
        clear hg p1 p2 p3 gok o3 b9 X9 b49 hw9 hk9 hb hO
        go_upto_region 12 with fail
        rw [← HW.out, ← HK.out]
        clear HW HK x1 l4 g0 g1 g2 g3 g4
        rcases A0 with ⟨z0, zf⟩ | ⟨z0, zf⟩ <;> rcases A1 with ⟨y2, y3, y4, yw, yr, y5, yv⟩ | ⟨y2, y3, y4, yw, yr, y5, yv⟩ <;>
          (go_wp2
           clear d0 d2 d3 d4 q1 m4 l9 z0 zf y2 y3 y4 yw yr y5 yv z1
           go_loopw [5, 8] (fun v5 v8 wr => ∃ (A' : Int) (k : Nat), v5 = .int .i64 A' ∧ v8 = .int .i64 (k : Int) ∧ (k : Int) ≤ g.c ∧ Hid (0 < k → A' = g.f + ((k : Int) - 1) * g.w + 1) ∧ Hid (Below w9.heap.size w9 wr)) (fun _ k _ => (g.c - intOf k).toNat)
           case atStart => exact ⟨A, 0, rfl, rfl, by omega, hid (fun h => absurd h (by omega)), B9⟩
           case round =>
             clear B9
             obtain ⟨A', k, rfl, rfl, kc, hA, hb9⟩ := hrel
             obtain ⟨Y9, yb⟩ := HX9.out wr hb9.out
             have d4 := Y9.cell 4 _ rfl; have l9 := Y9.lt
             by_cases hk : (k : Int) < g.c
             · have zk : decide ((k : Int) < g.c) = true := decide_eq_true hk
               obtain ⟨f0, lk⟩ := o4.out k hk
               obtain ⟨X, hX⟩ : ∃ X, X = (k : Int) * g.w := ⟨_, rfl⟩
               obtain ⟨Y, hY⟩ : ∃ Y, Y = (k : Int) * g.r := ⟨_, rfl⟩
               rw [← hX] at f0 lk
               rw [← hY] at lk
               have bnd := VB.out _ (List.mem_of_getElem? lk)
               have lt := (List.getElem?_eq_some_iff.1 lk).1
               have fv := FV.out
               obtain ⟨lb2, lo, el, -, v0, -⟩ := int_at (HL.out wr (HX.out wr yb).2.2) lk
               subst el
               have u1 : IntKind.i64.wrap ((k : Int) * g.w) = X := by rw [← hX]; exact wrap_l (by unfold I64; omega)
               have u2 : IntKind.i64.wrap (g.f + X) = g.f + X := wrap_l (by unfold I64; omega)
               have u3 : IntKind.i64.wrap ((k : Int) * g.r) = Y := by rw [← hY]; exact wrap_l (by unfold I64; omega)
               have u4 : IntKind.i64.wrap (g.v + Y) = g.v + Y := wrap_l (by unfold I64; omega)
               have u5 : IntKind.i64.wrap (g.f + X + 1) = g.f + X + 1 := wrap_l (by unfold I64; omega)
               have u6 : IntKind.i64.wrap ((k : Int) + 1) = (k : Int) + 1 := wrap_l (by unfold I64; omega)
               have j1 : g.f + X < (l.length : Int) := by omega
               have zq : decide ((l.length : Int) ≤ g.f + X) = false := decide_eq_false (by omega)
               have d0 := Y9.cell 0 _ rfl; have d2 := Y9.cell 2 _ rfl
               have c1 := cell_regrown (Y9.cell 1 _ rfl); have c3 := cell_regrown (Y9.cell 3 _ rfl); have c4 := cell_regrown v0
               have NA := hid (show 0 < k + 1 → g.f + X + 1 = g.f + (((k + 1 : Nat) : Int) - 1) * g.w + 1 from fun _ => by rw [show ((k + 1 : Nat) : Int) - 1 = (k : Int) by omega, ← hX])
               clear Y9 yb lk hX hY hA v0 bnd fv
               go_upto_region 18 with fail
               refine wp_region_quiet_below (by kernel_rfl) (by kernel_rfl) ?_
               repeat (go_big_quiet_step (fail))
               refine wpQuiet_nil ?_
               intro _ hw'
               obtain ⟨⟨dq, osq⟩, hw''⟩ := hw'
               subst hw''
               have NB := hid (bel_on hb9.out (below_regrown wr dq osq))
               clear hb9 d0 d2 d4 c1 c3 c4
               go_wp2
               go_roundw
               case rel => exact ⟨g.f + X + 1, k + 1, rfl, by simp, by omega, NA, NB⟩
               case measure => simp [intOf]; omega
             · have zk : decide ((k : Int) < g.c) = false := decide_eq_false hk
               have NO := hid (show okG l A' (G.drop (i' + 1)) by
                 rw [hA.out (by omega), show (k : Int) = g.c by omega]
                 exact o5.out)
               have YB := hid yb
               clear Y9 yb hA hb9 HX9 o4 o5
               go_wp2
               go_roundw
               case rel => exact ⟨i' + 1, _, rfl, by simp, by omega, NO, YB⟩
               case measure => simp [intOf]; omega)
      · obtain ⟨p1, -, p3⟩ := HX.out wr hb.out
        have x0 := p1.cell 0 _ rfl; have l4 := p1.lt
        have wl : IntKind.i64.wrap ((l.length : Int) - 1) = (l.length : Int) - 1 := wrap_l (by unfold I64; omega)
        have BZ := hid p3
        clear p1 p3 hO hb
        go_wp2
        go_ret
        exact ⟨rfl, BZ.out⟩
end Go.Proofs.Ytemjmdfmcblgnaa.L15

/- LineIs (layer 14). -/
import Derived.Test.YtghhnimimccpoaaJL14b
import Derived.Deep.RegionHeld3
namespace Go.Proofs.Ytghhnimimccpoaa.P
end Go.Proofs.Ytghhnimimccpoaa.P
namespace Go.Proofs.Ytghhnimimccpoaa.Mm
end Go.Proofs.Ytghhnimimccpoaa.Mm
namespace Go.Proofs.Ytghhnimimccpoaa.R6
end Go.Proofs.Ytghhnimimccpoaa.R6
namespace Go.Proofs.Ytghhnimimccpoaa.R14
end Go.Proofs.Ytghhnimimccpoaa.R14
namespace Go.Proofs.Ytghhnimimccpoaa.L14
open Go.RowKit Go.Sort P Mm R6 R14
theorem rn_nil {w : World} {ao : Option Addr} {cap : Nat} (h : cap ≤ 9223372036854775807) : Row tRn w ao 0 cap [] := ⟨rfl, Nat.zero_le _, h, fun h => absurd rfl h⟩
theorem ply_nil (k : Int) (h1 : -2147483648 ≤ k) (h2 : k ≤ 2147483648) : Ply k [] := ply_of h1 h2 (by decide) (fun _ h => by cases h)
theorem bel_below {a b c : World} (h : Below a.heap.size a b) (k : Below b.heap.size b c) : Below a.heap.size a c := bel_on h k
set_option maxHeartbeats 4000000 in
set_option maxRecDepth 100000 in
theorem is_walk (S : Ln) (k : Int) (l : List Int) (ao : Option Addr) (cap : Nat) (most : Int) (w : World) (hl : Row tInt w ao l.length cap l) (hm : I64 most) :
    Calls Try.prog 3 #[.int .i64 k, .slice ao l.length cap, .int .i64 most] w fun e w' => e = .returned (.bool true) ∧ Below w.heap.size w w' := by
  have cA := hid (alive_any S w)
  have cG := great_any k l ao cap
  have lm := hl.hmax
  have lc := hl.hcap
  have HL := hid (fun (W : World) (b : Below w.heap.size w W) => hl.on b)
  have HM := hid hm
  rcases Bool.eq_false_or_eq_true (greatB k l) with g | g
  · rw [g] at cG
    have cG := hid cG
    clear g hm
    go_enter Try.func3, Try.ntmps3
    go_wp2_with fail
    refine cA.out.mono ?_
    rintro e w1 ⟨rfl, b1⟩
    have B1 := hid b1
    clear b1 cA
    go_wp2_with fail
    refine (cG.out w1 (HL.out w1 B1.out)).mono ?_
    rintro e w' ⟨rfl, rfl⟩
    clear cG
    go_wp2
    go_ret
    exact ⟨rfl, B1.out⟩
  obtain ⟨p1, p2, p3⟩ := great_not g
  rw [g] at cG
  have cG := hid cG
  have hp : Ply k l := ply_of (by omega) (by omega) (by omega) (row_vals hl)
  have cO := fun (W : World) (b : Below w.heap.size w W) => S.of k l ao cap W (HL.out W b) (by omega) (by omega) (by omega)
  have cS := fun (a2 : Option Addr) (c2 : Nat) (W : World) (h : Row tRn W a2 (runsF k l).length c2 (runsF k l)) (b : Below w.heap.size w W) => same_any S k l a2 c2 ao cap W h (HL.out W b) (by omega) (by omega)
  have cGn := fun (a2 : Option Addr) (c2 : Nat) (W : World) (h : Row tRn W a2 (runsF k l).length c2 (runsF k l)) => gone_any S k l a2 c2 most W h hp
  have cR := fun (W : World) (b : Below w.heap.size w W) => runs_any k l ao cap W (HL.out W b) (by unfold Lim; omega) (by omega)
  obtain ⟨R, hR⟩ : ∃ R, R = runsF k l := ⟨_, rfl⟩
  have rl : R.length ≤ 300 := by rw [hR]; exact Nat.le_trans (runs_len l k) p3
  rw [← hR] at cO cS cGn cR
  obtain ⟨N, hN⟩ : ∃ N, N = R.length := ⟨_, rfl⟩
  rw [← hN] at cO cS cGn cR rl
  have gl : ((goneL R most).length : Int) = min (max most 0) (N : Int) := by
    unfold goneL
    rw [List.length_take, hN]
    omega
  obtain ⟨M, hM⟩ : ∃ M, M = (goneL R most).length := ⟨_, rfl⟩
  rw [← hM] at gl cGn
  have cO := hid cO; have cS := hid cS; have cGn := hid cGn; have cR := hid cR
  have GL := hid gl
  have c0C := hid (fun (W : World) => show Calls Try.prog 12 #[.agg #[.slice none 0 0]] W fun e w' => e = .returned (.int .i64 0) ∧ Below W.heap.size W w' from S.count 0 [] none 0 W (rn_nil (by decide)) (ply_nil 0 (by decide) (by decide)))
  have c0G := hid (fun (W : World) => show Calls Try.prog 13 #[.agg #[.slice none 0 0], .int .i64 9] W fun e w' => (∃ ao cap, e = .returned (.slice ao 0 cap) ∧ True) ∧ Below W.heap.size W w' from
    (gone_any S 0 [] none 0 9 W (rn_nil (by decide)) (ply_nil 0 (by decide) (by decide))).mono fun e w' h => by
      obtain ⟨⟨a, c, e1, _⟩, h2⟩ := h
      exact ⟨⟨a, c, e1, trivial⟩, h2⟩)
  have c0O := hid (fun (W : World) => show Calls Try.prog 11 #[.int .i64 7, .slice none 0 0] W fun e w' => (∃ ao cap, e = .returned (.agg #[.slice ao 0 cap]) ∧ cap ≤ 9223372036854775807) ∧ Below W.heap.size W w' from
    (S.of 7 [] none 0 W ⟨rfl, Nat.le_refl _, by decide, fun h => absurd rfl h⟩ (by decide) (by decide) (by decide)).mono fun e w' h => by
      obtain ⟨⟨a, c, e1, h1⟩, h2⟩ := h
      exact ⟨⟨a, c, e1, h1.hmax⟩, h2⟩)
  have c0E := hid (fun (a : Option Addr) (c : Nat) (hc : c ≤ 9223372036854775807) (W : World) => show Calls Try.prog 14 #[.agg #[.slice none 0 0], .agg #[.slice a 0 c]] W fun e w' => e = .returned (.bool true) ∧ Below W.heap.size W w' from
    S.equal 0 [] none 0 7 [] a c W (rn_nil (by decide)) (ply_nil 0 (by decide) (by decide)) (rn_nil hc) (ply_nil 7 (by decide) (by decide)))
  have B0 := hid (Below.refl w.heap.size w)
  clear hp hN hR hl hm g p1 p2 hM gl
  go_enter Try.func3, Try.ntmps3
  go_wp2_with fail
  refine cA.out.mono ?_
  rintro e w1 ⟨rfl, b1⟩
  have B1 := hid b1
  clear b1 cA B0
  go_wp2_with fail
  refine (cG.out w1 (HL.out w1 B1.out)).mono ?_
  rintro e w' ⟨rfl, rfl⟩
  clear cG
  go_wp2_with fail
  refine (cO.out w1 B1.out).mono ?_
  rintro e w2 ⟨⟨a2, c2, rfl, R2⟩, b2⟩
  obtain ⟨w3, hw3⟩ : ∃ W, W = w2.alloc (.cells ([.slice a2 N c2] : List Value).toArray 27) := ⟨_, rfl⟩
  obtain ⟨k3, hk3⟩ : ∃ k, k = w2.heap.size := ⟨_, rfl⟩
  have b23 : Below w2.heap.size w2 w3 := by rw [hw3]; exact bel_alloc _ _
  have X3 : Box w3 k3 [.slice a2 N c2] := by rw [hw3, hk3]; exact Box.new w2 _ _
  obtain ⟨w4, hw4⟩ : ∃ W, W = w3.alloc (.cells ([.int .i64 k, .slice ao l.length cap] : List Value).toArray 30) := ⟨_, rfl⟩
  obtain ⟨k4, hk4⟩ : ∃ k, k = w3.heap.size := ⟨_, rfl⟩
  have b34 : Below w3.heap.size w3 w4 := by rw [hw4]; exact bel_alloc _ _
  have X4 : Box w4 k4 [.int .i64 k, .slice ao l.length cap] := by rw [hw4, hk4]; exact Box.new w3 _ _
  obtain ⟨w5, hw5⟩ : ∃ W, W = w4.alloc (.cells ([.slice none 0 0] : List Value).toArray 27) := ⟨_, rfl⟩
  obtain ⟨k5, hk5⟩ : ∃ k, k = w4.heap.size := ⟨_, rfl⟩
  have b45 : Below w4.heap.size w4 w5 := by rw [hw5]; exact bel_alloc _ _
  have X5 : Box w5 k5 [.slice none 0 0] := by rw [hw5, hk5]; exact Box.new w4 _ _
  have b35 := bel_on b34 b45
  have K := hid (fun (W : World) (b : Below w5.heap.size w5 W) => (⟨(X5.on b).cell 0 _ rfl, b⟩ : W.cell? ⟨k5, 0, none⟩ = some (.slice none 0 0) ∧ Below w5.heap.size w5 W))
  have K2 := hid (fun (W : World) (b : Below w5.heap.size w5 W) => (⟨(X3.on (bel_on b35 b)).cell 0 _ rfl, (X4.on (bel_on b45 b)).cell 0 _ rfl, (X4.on (bel_on b45 b)).cell 1 _ rfl, b⟩ : W.cell? ⟨k3, 0, none⟩ = some (.slice a2 N c2) ∧ W.cell? ⟨k4, 0, none⟩ = some (.int .i64 k) ∧ W.cell? ⟨k4, 1, none⟩ = some (.slice ao l.length cap) ∧ Below w5.heap.size w5 W))
  have R5 := hid (fun (W : World) (b : Below w5.heap.size w5 W) => (R2.on (bel_on b23 b35)).on b)
  have B5 := hid (fun (W : World) (b : Below w5.heap.size w5 W) => bel_on (bel_on (bel_on B1.out b2) (bel_on b23 b35)) b)
  have HW := hid (show w5 = ((w2.alloc (.cells #[.slice a2 N c2] 27)).alloc (.cells #[.int .i64 k, .slice ao l.length cap] 30)).alloc (.cells #[.slice none 0 0] 27) by rw [hw5, hw4, hw3])
  have HK3 := hid hk3
  have HK4 := hid (show k4 = w2.heap.size + 1 by rw [hk4, hw3]; simp)
  have HK5 := hid (show k5 = w2.heap.size + 1 + 1 by rw [hk5, hw4, hw3]; simp)
  have d5 := X5.cell 0 _ rfl
  have l5 := X5.lt
  clear hw3 hk3 b23 X3 hw4 hk4 b34 X4 hw5 hk5 b45 X5 b35 R2 b2 cO
  go_upto_region 8 with fail
  rw [← HW.out, ← HK5.out, ← HK4.out, ← HK3.out]
  clear HW HK3 HK4 HK5
  have B0 := Below.refl w5.heap.size w5
  go_cut [35] (fun v W => v = .bool false ∧ Hid (Below w5.heap.size w5 W))
  case first =>
    go_region_held3 (fun w' => w'.cell? ⟨k5, 0, none⟩ = some (.slice none 0 0) ∧ Below w5.heap.size w5 w')
      ((refine K.out _ ?_; repeat (first | assumption | exact Below.refl _ _ | (refine Below.drew ?_) | (refine bel_below ?_ ‹_›))))
      (first
      | (go_at_call 12
         refine (c0C.out _).mono ?_
         rintro e w6 ⟨rfl, hb6⟩)
      | (go_at_call 13
         refine (c0G.out _).mono ?_
         rintro e w7 ⟨⟨a7, c7, rfl, _⟩, hb7⟩)
      | (go_at_call 11
         refine (c0O.out _).mono ?_
         rintro e w8 ⟨⟨a8, c8, rfl, h8⟩, hb8⟩)
      | (go_at_call 14
         refine (c0E.out a8 c8 h8 _).mono ?_
         rintro e w9 ⟨rfl, hb9⟩))
    all_goals
      go_wp2
      go_meet
      refine ⟨rfl, hid ?_⟩
      repeat (first | assumption | exact Below.refl _ _ | (refine Below.drew ?_) | (refine bel_below ?_ ‹_›))
  case rest =>
    obtain ⟨rfl, hb⟩ := hcut
    obtain ⟨w6, hw6⟩ : ∃ W, W = wc := ⟨_, rfl⟩
    have B6 := hid hb.out
    rw [← hw6] at B6 ⊢
    clear hb hw6 B0 d5 l5 K c0C c0G c0O c0E
    obtain ⟨d3, d4, e4, -⟩ := K2.out w6 B6.out
    have KK := hid (fun (W : World) (b : Below w6.heap.size w6 W) => (⟨(K2.out W (bel_on B6.out b)).1, (K2.out W (bel_on B6.out b)).2.1, (K2.out W (bel_on B6.out b)).2.2.1, b⟩ : W.cell? ⟨k3, 0, none⟩ = some (.slice a2 N c2) ∧ W.cell? ⟨k4, 0, none⟩ = some (.int .i64 k) ∧ W.cell? ⟨k4, 1, none⟩ = some (.slice ao l.length cap) ∧ Below w6.heap.size w6 W))
    have B0 := Below.refl w6.heap.size w6
    have cS2 := hid (fun (W : World) (b : Below w6.heap.size w6 W) => cS.out a2 c2 W (R5.out W (bel_on B6.out b)) (B5.out W (bel_on B6.out b)))
    have cG2 := hid (fun (W : World) (b : Below w6.heap.size w6 W) => cGn.out a2 c2 W (R5.out W (bel_on B6.out b)))
    have cR2 := hid (fun (W : World) (b : Below w6.heap.size w6 W) => cR.out W (B5.out W (bel_on B6.out b)))
    have BF := hid (fun (W : World) (b : Below w6.heap.size w6 W) => B5.out W (bel_on B6.out b))
    clear cS cGn cR K2 R5 B5 B1
    have gl := GL.out
    rcases Int.lt_or_le most 0 with h0 | h0
    · rcases Nat.eq_zero_or_pos N with hN0 | hN0
      · have h1 : ¬ (N : Int) < 0 := by omega
        have h2 : ¬ (0 : Int) < (N : Int) := by omega
        have zM : ((M : Int) == 0) = true := by rw [beq_iff_eq]; omega
        have zN : ((M : Int) == (N : Int)) = true := by rw [beq_iff_eq]; omega
        clear gl hN0
        go_upto_region 10 with fail
        go_region_held3 (fun w' => w'.cell? ⟨k3, 0, none⟩ = some (.slice a2 N c2) ∧ w'.cell? ⟨k4, 0, none⟩ = some (.int .i64 k) ∧ w'.cell? ⟨k4, 1, none⟩ = some (.slice ao l.length cap) ∧ Below w6.heap.size w6 w')
          ((refine KK.out _ ?_; repeat (first | assumption | exact Below.refl _ _ | (refine Below.drew ?_) | (refine bel_below ?_ ‹_›))))
          (first
          | (go_at_call 15
             refine (cS2.out _ (by repeat (first | assumption | exact Below.refl _ _ | (refine Below.drew ?_) | (refine bel_below ?_ ‹_›)))).mono ?_
             rintro e w7 ⟨rfl, hb7⟩)
          | (go_at_call 13
             refine (cG2.out _ (by repeat (first | assumption | exact Below.refl _ _ | (refine Below.drew ?_) | (refine bel_below ?_ ‹_›)))).mono ?_
             rintro e w8 ⟨⟨a8, c8, rfl, _⟩, hb8⟩)
          | (go_at_call 16
             refine (cR2.out _ (by repeat (first | assumption | exact Below.refl _ _ | (refine Below.drew ?_) | (refine bel_below ?_ ‹_›)))).mono ?_
             rintro e w9 ⟨⟨a9, c9, rfl, _⟩, hb9⟩))
        all_goals
          go_wp2
          go_ret
          refine ⟨rfl, BF.out _ ?_⟩
          repeat (first | assumption | exact Below.refl _ _ | (refine Below.drew ?_) | (refine bel_below ?_ ‹_›))
      · have h1 : ¬ (N : Int) < 0 := by omega
        have h2 : (0 : Int) < (N : Int) := by omega
        have zM : ((M : Int) == 0) = true := by rw [beq_iff_eq]; omega
        clear gl hN0
        go_upto_region 10 with fail
        go_region_held3 (fun w' => w'.cell? ⟨k3, 0, none⟩ = some (.slice a2 N c2) ∧ w'.cell? ⟨k4, 0, none⟩ = some (.int .i64 k) ∧ w'.cell? ⟨k4, 1, none⟩ = some (.slice ao l.length cap) ∧ Below w6.heap.size w6 w')
          ((refine KK.out _ ?_; repeat (first | assumption | exact Below.refl _ _ | (refine Below.drew ?_) | (refine bel_below ?_ ‹_›))))
          (first
          | (go_at_call 15
             refine (cS2.out _ (by repeat (first | assumption | exact Below.refl _ _ | (refine Below.drew ?_) | (refine bel_below ?_ ‹_›)))).mono ?_
             rintro e w7 ⟨rfl, hb7⟩)
          | (go_at_call 13
             refine (cG2.out _ (by repeat (first | assumption | exact Below.refl _ _ | (refine Below.drew ?_) | (refine bel_below ?_ ‹_›)))).mono ?_
             rintro e w8 ⟨⟨a8, c8, rfl, _⟩, hb8⟩)
          | (go_at_call 16
             refine (cR2.out _ (by repeat (first | assumption | exact Below.refl _ _ | (refine Below.drew ?_) | (refine bel_below ?_ ‹_›)))).mono ?_
             rintro e w9 ⟨⟨a9, c9, rfl, _⟩, hb9⟩))
        all_goals
          go_wp2
          go_ret
          refine ⟨rfl, BF.out _ ?_⟩
          repeat (first | assumption | exact Below.refl _ _ | (refine Below.drew ?_) | (refine bel_below ?_ ‹_›))
    · have h3 : ¬ most < 0 := by omega
      rcases Int.lt_trichotomy most (N : Int) with h1 | h1 | h1
      · have h2 : ¬ (N : Int) < most := by omega
        have zM : ((M : Int) == most) = true := by rw [beq_iff_eq]; omega
        clear gl
        go_upto_region 10 with fail
        go_region_held3 (fun w' => w'.cell? ⟨k3, 0, none⟩ = some (.slice a2 N c2) ∧ w'.cell? ⟨k4, 0, none⟩ = some (.int .i64 k) ∧ w'.cell? ⟨k4, 1, none⟩ = some (.slice ao l.length cap) ∧ Below w6.heap.size w6 w')
          ((refine KK.out _ ?_; repeat (first | assumption | exact Below.refl _ _ | (refine Below.drew ?_) | (refine bel_below ?_ ‹_›))))
          (first
          | (go_at_call 15
             refine (cS2.out _ (by repeat (first | assumption | exact Below.refl _ _ | (refine Below.drew ?_) | (refine bel_below ?_ ‹_›)))).mono ?_
             rintro e w7 ⟨rfl, hb7⟩)
          | (go_at_call 13
             refine (cG2.out _ (by repeat (first | assumption | exact Below.refl _ _ | (refine Below.drew ?_) | (refine bel_below ?_ ‹_›)))).mono ?_
             rintro e w8 ⟨⟨a8, c8, rfl, _⟩, hb8⟩)
          | (go_at_call 16
             refine (cR2.out _ (by repeat (first | assumption | exact Below.refl _ _ | (refine Below.drew ?_) | (refine bel_below ?_ ‹_›)))).mono ?_
             rintro e w9 ⟨⟨a9, c9, rfl, _⟩, hb9⟩))
        all_goals
          go_wp2
          go_ret
          refine ⟨rfl, BF.out _ ?_⟩
          repeat (first | assumption | exact Below.refl _ _ | (refine Below.drew ?_) | (refine bel_below ?_ ‹_›))
      · have h2 : ¬ (N : Int) < most := by omega
        have h4 : ¬ most < (N : Int) := by omega
        have zM : ((M : Int) == most) = true := by rw [beq_iff_eq]; omega
        have zN : ((M : Int) == (N : Int)) = true := by rw [beq_iff_eq]; omega
        clear gl h1
        go_upto_region 10 with fail
        go_region_held3 (fun w' => w'.cell? ⟨k3, 0, none⟩ = some (.slice a2 N c2) ∧ w'.cell? ⟨k4, 0, none⟩ = some (.int .i64 k) ∧ w'.cell? ⟨k4, 1, none⟩ = some (.slice ao l.length cap) ∧ Below w6.heap.size w6 w')
          ((refine KK.out _ ?_; repeat (first | assumption | exact Below.refl _ _ | (refine Below.drew ?_) | (refine bel_below ?_ ‹_›))))
          (first
          | (go_at_call 15
             refine (cS2.out _ (by repeat (first | assumption | exact Below.refl _ _ | (refine Below.drew ?_) | (refine bel_below ?_ ‹_›)))).mono ?_
             rintro e w7 ⟨rfl, hb7⟩)
          | (go_at_call 13
             refine (cG2.out _ (by repeat (first | assumption | exact Below.refl _ _ | (refine Below.drew ?_) | (refine bel_below ?_ ‹_›)))).mono ?_
             rintro e w8 ⟨⟨a8, c8, rfl, _⟩, hb8⟩)
          | (go_at_call 16
             refine (cR2.out _ (by repeat (first | assumption | exact Below.refl _ _ | (refine Below.drew ?_) | (refine bel_below ?_ ‹_›)))).mono ?_
             rintro e w9 ⟨⟨a9, c9, rfl, _⟩, hb9⟩))
        all_goals
          go_wp2
          go_ret
          refine ⟨rfl, BF.out _ ?_⟩
          repeat (first | assumption | exact Below.refl _ _ | (refine Below.drew ?_) | (refine bel_below ?_ ‹_›))
      · have h4 : ¬ most < (N : Int) := by omega
        have zN : ((M : Int) == (N : Int)) = true := by rw [beq_iff_eq]; omega
        clear gl
        go_upto_region 10 with fail
        go_region_held3 (fun w' => w'.cell? ⟨k3, 0, none⟩ = some (.slice a2 N c2) ∧ w'.cell? ⟨k4, 0, none⟩ = some (.int .i64 k) ∧ w'.cell? ⟨k4, 1, none⟩ = some (.slice ao l.length cap) ∧ Below w6.heap.size w6 w')
          ((refine KK.out _ ?_; repeat (first | assumption | exact Below.refl _ _ | (refine Below.drew ?_) | (refine bel_below ?_ ‹_›))))
          (first
          | (go_at_call 15
             refine (cS2.out _ (by repeat (first | assumption | exact Below.refl _ _ | (refine Below.drew ?_) | (refine bel_below ?_ ‹_›)))).mono ?_
             rintro e w7 ⟨rfl, hb7⟩)
          | (go_at_call 13
             refine (cG2.out _ (by repeat (first | assumption | exact Below.refl _ _ | (refine Below.drew ?_) | (refine bel_below ?_ ‹_›)))).mono ?_
             rintro e w8 ⟨⟨a8, c8, rfl, _⟩, hb8⟩)
          | (go_at_call 16
             refine (cR2.out _ (by repeat (first | assumption | exact Below.refl _ _ | (refine Below.drew ?_) | (refine bel_below ?_ ‹_›)))).mono ?_
             rintro e w9 ⟨⟨a9, c9, rfl, _⟩, hb9⟩))
        all_goals
          go_wp2
          go_ret
          refine ⟨rfl, BF.out _ ?_⟩
          repeat (first | assumption | exact Below.refl _ _ | (refine Below.drew ?_) | (refine bel_below ?_ ‹_›))
end Go.Proofs.Ytghhnimimccpoaa.L14
/- LineZips (layer 14). -/
namespace Go.Proofs.Ytghhnimimccpoaa.L14
open Go.RowKit Go.Sort P Mm R6 R14
/-- What Zip of package line answers, by what makes one of two values. -/
structure LnZ : Prop where
  mix : ∀ (k : Int) (l : List Int) (ao : Option Addr) (cap : Nat) (k' : Int) (l' : List Int) (bo : Option Addr) (bcap : Nat) (w : World), Row tRn w ao (runsF k l).length cap (runsF k l) → Ply k l → Row tRn w bo (runsF k' l').length bcap (runsF k' l') → Ply k' l' →
    Calls Try.prog 22 #[.agg #[.slice ao (runsF k l).length cap], .agg #[.slice bo (runsF k' l').length bcap], .func (.func 23) #[] #[]] w fun e w' => (∃ ao' cap', e = .returned (.agg #[.slice ao' (runsF (max k k') (zipL mixF k l k' l')).length cap']) ∧ Row tRn w' ao' (runsF (max k k') (zipL mixF k l k' l')).length cap' (runsF (max k k') (zipL mixF k l k' l'))) ∧ Below w.heap.size w w'
set_option maxHeartbeats 4000000 in
set_option maxRecDepth 100000 in
theorem zips_walk (S : Ln) (Z : LnZ) (k : Int) (l : List Int) (ao : Option Addr) (cap : Nat) (k' : Int) (l' : List Int) (bo : Option Addr) (bcap : Nat) (w : World) (hl : Row tInt w ao l.length cap l) (hl' : Row tInt w bo l'.length bcap l') :
    Calls Try.prog 5 #[.int .i64 k, .slice ao l.length cap, .int .i64 k', .slice bo l'.length bcap] w fun e w' => e = .returned (.bool true) ∧ Below w.heap.size w w' := by
  have cA := hid (alive_any S w)
  have cG := great_any k l ao cap
  have cG' := great_any k' l' bo bcap
  have lm := hl.hmax
  have lc := hl.hcap
  have lm' := hl'.hmax
  have lc' := hl'.hcap
  have HL := hid (fun (W : World) (b : Below w.heap.size w W) => hl.on b)
  have HL' := hid (fun (W : World) (b : Below w.heap.size w W) => hl'.on b)
  rcases Bool.eq_false_or_eq_true (greatB k l) with g | g
  · rw [g] at cG
    have cG := hid cG
    clear g
    go_enter Try.func5, Try.ntmps5
    go_wp2_with fail
    refine cA.out.mono ?_
    rintro e w1 ⟨rfl, b1⟩
    have B1 := hid b1
    clear b1 cA
    go_wp2_with fail
    refine (cG.out w1 (HL.out w1 B1.out)).mono ?_
    rintro e w' ⟨rfl, rfl⟩
    clear cG
    go_wp2
    go_ret
    exact ⟨rfl, B1.out⟩
  obtain ⟨p1, p2, p3⟩ := great_not g
  rw [g] at cG
  have cG := hid cG
  rcases Bool.eq_false_or_eq_true (greatB k' l') with g' | g'
  · rw [g'] at cG'
    have cG' := hid cG'
    clear g g'
    go_enter Try.func5, Try.ntmps5
    go_wp2_with fail
    refine cA.out.mono ?_
    rintro e w1 ⟨rfl, b1⟩
    have B1 := hid b1
    clear b1 cA
    go_wp2_with fail
    refine (cG.out w1 (HL.out w1 B1.out)).mono ?_
    rintro e w' ⟨rfl, rfl⟩
    clear cG
    go_wp2_with fail
    refine (cG'.out w1 (HL'.out w1 B1.out)).mono ?_
    rintro e w' ⟨rfl, rfl⟩
    clear cG'
    go_wp2
    go_ret
    exact ⟨rfl, B1.out⟩
  obtain ⟨p4, p5, p6⟩ := great_not g'
  rw [g'] at cG'
  have cG' := hid cG'
  have hp : Ply k l := ply_of (by omega) (by omega) (by omega) (row_vals hl)
  have hp' : Ply k' l' := ply_of (by omega) (by omega) (by omega) (row_vals hl')
  have zl := zip_len mixF k l k' l'
  have cO := fun (W : World) (b : Below w.heap.size w W) => S.of k l ao cap W (HL.out W b) (by omega) (by omega) (by omega)
  have cO' := fun (W : World) (b : Below w.heap.size w W) => S.of k' l' bo bcap W (HL'.out W b) (by omega) (by omega) (by omega)
  have cZ := fun a2 c2 a3 c3 W h1 h2 => Z.mix k l a2 c2 k' l' a3 c3 W h1 hp h2 hp'
  have cRZ := fun (W : World) (b : Below w.heap.size w W) => zip_any k l ao cap k' l' bo bcap W (HL.out W b) (HL'.out W b) (by omega) (by omega) (by omega)
  have cSm := fun a2 c2 a3 c3 W h1 h2 => same_any S (max k k') (zipL mixF k l k' l') a2 c2 a3 c3 W h1 h2 (by omega) (by omega)
  obtain ⟨m, hm⟩ : ∃ m, m = max k k' := ⟨_, rfl⟩
  obtain ⟨L, hL⟩ : ∃ L, L = zipL mixF k l k' l' := ⟨_, rfl⟩
  rw [← hm, ← hL] at cZ cRZ cSm
  obtain ⟨RZ, hRZ⟩ : ∃ R, R = runsF m L := ⟨_, rfl⟩
  rw [← hRZ] at cZ cSm
  obtain ⟨NZ, hNZ⟩ : ∃ N, N = RZ.length := ⟨_, rfl⟩
  rw [← hNZ] at cZ cSm
  obtain ⟨NL, hNL⟩ : ∃ N, N = L.length := ⟨_, rfl⟩
  rw [← hNL] at cRZ cSm
  obtain ⟨R1, hR1⟩ : ∃ R, R = runsF k l := ⟨_, rfl⟩
  rw [← hR1] at cO cZ
  obtain ⟨N1, hN1⟩ : ∃ N, N = R1.length := ⟨_, rfl⟩
  rw [← hN1] at cO cZ
  obtain ⟨R2, hR2⟩ : ∃ R, R = runsF k' l' := ⟨_, rfl⟩
  rw [← hR2] at cO' cZ
  obtain ⟨N2, hN2⟩ : ∃ N, N = R2.length := ⟨_, rfl⟩
  rw [← hN2] at cO' cZ
  have cO := hid cO; have cO' := hid cO'; have cZ := hid cZ; have cRZ := hid cRZ; have cSm := hid cSm
  clear g g' hp hp' zl hm hL hRZ hNZ hNL hR1 hN1 hR2 hN2 hl hl' p1 p2 p3 p4 p5 p6
  go_enter Try.func5, Try.ntmps5
  go_wp2_with fail
  refine cA.out.mono ?_
  rintro e w1 ⟨rfl, b1⟩
  have B1 := hid b1
  clear b1 cA
  go_wp2_with fail
  refine (cG.out w1 (HL.out w1 B1.out)).mono ?_
  rintro e w' ⟨rfl, rfl⟩
  clear cG
  go_wp2_with fail
  refine (cG'.out w1 (HL'.out w1 B1.out)).mono ?_
  rintro e w' ⟨rfl, rfl⟩
  clear cG'
  go_wp2_with fail
  refine (cO.out w1 B1.out).mono ?_
  rintro e w2 ⟨⟨a2, c2, rfl, r2⟩, b2⟩
  have B2 := hid (bel_on B1.out b2)
  have r2 := hid r2
  clear b2 cO B1
  go_wp2_with fail
  refine (cO'.out w2 B2.out).mono ?_
  rintro e w3 ⟨⟨a3, c3, rfl, r3⟩, b3⟩
  have B3 := hid (bel_on B2.out b3)
  have r2 := hid (r2.out.on b3)
  have r3 := hid r3
  clear b3 cO' B2
  go_wp2_with fail
  refine (cZ.out a2 c2 a3 c3 w3 r2.out r3.out).mono ?_
  rintro e w4 ⟨⟨a4, c4, rfl, r4⟩, b4⟩
  obtain ⟨w5, hw5⟩ : ∃ W, W = w4.alloc (.cells #[.slice a4 NZ c4] 27) := ⟨_, rfl⟩
  obtain ⟨k5, hk5⟩ : ∃ k, k = w4.heap.size := ⟨_, rfl⟩
  have b45 : Below w4.heap.size w4 w5 := by rw [hw5]; exact bel_alloc _ _
  have X5 : Box w5 k5 [.slice a4 NZ c4] := by rw [hw5, hk5]; exact Box.new w4 [.slice a4 NZ c4] _
  have B5 := hid (fun (W : World) (b : Below w5.heap.size w5 W) => bel_on (bel_on (bel_on B3.out b4) b45) b)
  have K := hid (fun (W : World) (b : Below w5.heap.size w5 W) => (⟨(X5.on b).cell 0 _ rfl, b⟩ : W.cell? ⟨k5, 0, none⟩ = some (.slice a4 NZ c4) ∧ Below w5.heap.size w5 W))
  have R5 := hid (fun (W : World) (b : Below w5.heap.size w5 W) => (r4.on b45).on b)
  have HW := hid hw5
  have HK := hid hk5
  have d0 := X5.cell 0 _ rfl
  clear cZ b4 r2 r3 B3 hw5 hk5 b45 X5 r4
  go_upto_region 6 with fail
  rw [← HW.out, ← HK.out]
  clear HW HK
  have B0 := Below.refl w5.heap.size w5
  go_region_held3 (fun w' => w'.cell? ⟨k5, 0, none⟩ = some (.slice a4 NZ c4) ∧ Below w5.heap.size w5 w')
    ((refine K.out _ ?_; repeat (first | assumption | exact Below.refl _ _ | (refine Below.drew ?_) | (refine bel_below ?_ ‹_›))))
    (first
    | (go_at_call 24
       refine (cRZ.out _ (B5.out _ (by repeat (first | assumption | exact Below.refl _ _ | (refine Below.drew ?_) | (refine bel_below ?_ ‹_›))))).mono ?_
       rintro e w6 ⟨⟨a6, c6, rfl, r6⟩, hb6⟩)
    | (go_at_call 15
       refine (cSm.out a4 c4 a6 c6 _ (R5.out _ (by repeat (first | assumption | exact Below.refl _ _ | (refine Below.drew ?_) | (refine bel_below ?_ ‹_›)))) r6).mono ?_
       rintro e w7 ⟨rfl, hb7⟩))
  all_goals
    go_wp2
    go_ret
    refine ⟨rfl, B5.out _ ?_⟩
    repeat (first | assumption | exact Below.refl _ _ | (refine Below.drew ?_) | (refine bel_below ?_ ‹_›))
end Go.Proofs.Ytghhnimimccpoaa.L14
/- LineFills (layer 14). -/
namespace Go.Proofs.Ytghhnimimccpoaa.L14
open Go.RowKit Go.Sort P Mm R6 R14
/-- A line of one value. -/
def flatL (a b v : Int) : List Int := List.replicate (b - a + 1).toNat v
theorem flat_no {a b v : Int} (h : b < a) : flatL a b v = [] := by
  unfold flatL
  rw [show (b - a + 1).toNat = 0 by omega]
  rfl
theorem flat_runs {a b v : Int} (h : a ≤ b) : runsF a (flatL a b v) = [⟨a, b, v⟩] := by
  have := runs_rep v ([] : List Int) (fun w r h => by cases h) (b - a).toNat a
  rw [List.append_nil] at this
  unfold flatL
  rw [show (b - a + 1).toNat = (b - a).toNat + 1 by omega, this, show a + ((b - a).toNat : Int) = b by omega]
  rfl
theorem flat_ply {a b v : Int} (ha : -1073741824 ≤ a ∧ a ≤ 1073741824) (hb : -1073741824 ≤ b ∧ b ≤ 1073741824) (hv : I64 v) : Ply a (flatL a b v) := by
  refine ⟨by omega, by omega, ?_, fun x hx => ?_, ?_⟩
  · unfold flatL
    rw [List.length_replicate]
    omega
  · unfold flatL at hx
    rw [(List.mem_replicate.1 hx).2]
    exact hv
  · rcases Int.lt_or_le b a with h | h
    · rw [flat_no h]
      show (0 : Nat) ≤ _
      decide
    · rw [flat_runs h]
      show (1 : Nat) ≤ _
      decide
theorem flat_span {a b v : Int} (h : a ≤ b) : spanR (runsF a (flatL a b v)) = (a, b, true) := by
  rw [flat_runs h]
  rfl
theorem flat_at {a b v : Int} (h : a ≤ b) : atL a (flatL a b v) b = some v := by
  unfold atL flatL
  rw [if_neg (by omega), List.getElem?_replicate, if_pos (by omega)]
/-- What Fill and Flat of package line answer. -/
structure LnF : Prop where
  fill : ∀ (k : Int) (l : List Int) (ao : Option Addr) (cap : Nat) (a b v : Int) (w : World), Row tRn w ao (runsF k l).length cap (runsF k l) → Ply k l → l.length ≤ 1000 → -1073741824 ≤ a ∧ a ≤ 1073741824 → -1073741824 ≤ b ∧ b ≤ 1073741824 → I64 v →
    Calls Try.prog 17 #[.agg #[.slice ao (runsF k l).length cap], .int .i64 a, .int .i64 b, .int .i64 v] w fun e w' => (∃ ao' cap', e = .returned (.agg #[.slice ao' (runsF k (fillL k l a b v)).length cap']) ∧ Row tRn w' ao' (runsF k (fillL k l a b v)).length cap' (runsF k (fillL k l a b v))) ∧ Below w.heap.size w w'
  flat : ∀ (a b v : Int) (w : World), -1073741824 ≤ a ∧ a ≤ 1073741824 → -1073741824 ≤ b ∧ b ≤ 1073741824 → I64 v →
    Calls Try.prog 19 #[.int .i64 a, .int .i64 b, .int .i64 v] w fun e w' => (∃ ao' cap', e = .returned (.agg #[.slice ao' (runsF a (flatL a b v)).length cap']) ∧ Row tRn w' ao' (runsF a (flatL a b v)).length cap' (runsF a (flatL a b v))) ∧ Below w.heap.size w w'
set_option maxHeartbeats 4000000 in
set_option maxRecDepth 100000 in
theorem fills_walk (S : Ln) (F : LnF) (k : Int) (l : List Int) (ao : Option Addr) (cap : Nat) (a b v : Int) (w : World) (hl : Row tInt w ao l.length cap l) (hv : I64 v) :
    Calls Try.prog 4 #[.int .i64 k, .slice ao l.length cap, .int .i64 a, .int .i64 b, .int .i64 v] w fun e w' => e = .returned (.bool true) ∧ Below w.heap.size w w' := by
  have cA := hid (alive_any S w)
  have cG := great_any k l ao cap
  have lm := hl.hmax
  have lc := hl.hcap
  have HL := hid (fun (W : World) (b : Below w.heap.size w W) => hl.on b)
  have HV := hid hv
  have HLL := hid hl
  rcases Bool.eq_false_or_eq_true (greatB k l) with g | g
  · rw [g] at cG
    have cG := hid cG
    clear g hl hv
    go_enter Try.func4, Try.ntmps4
    go_wp2_with fail
    refine cA.out.mono ?_
    rintro e w1 ⟨rfl, b1⟩
    have B1 := hid b1
    clear b1 cA
    go_wp2_with fail
    refine (cG.out w1 (HL.out w1 B1.out)).mono ?_
    rintro e w' ⟨rfl, rfl⟩
    clear cG
    go_wp2
    go_ret
    exact ⟨rfl, B1.out⟩
  obtain ⟨p1, p2, p3⟩ := great_not g
  rw [g] at cG
  have cG := hid cG
  have GP := hid (show -1048576 ≤ k ∧ k ≤ 1048576 ∧ l.length ≤ 300 from ⟨p1, p2, p3⟩)
  clear g hl hv p1 p2 p3
  go_enter Try.func4, Try.ntmps4
  go_wp2_with fail
  refine cA.out.mono ?_
  rintro e w1 ⟨rfl, b1⟩
  have B1 := hid b1
  clear b1 cA
  go_wp2_with fail
  refine (cG.out w1 (HL.out w1 B1.out)).mono ?_
  rintro e w' ⟨rfl, rfl⟩
  clear cG
  by_cases h1 : 1073741824 < a
  · have z1 : decide (1073741824 < a) = true := decide_eq_true h1
    go_wp2
    go_ret
    exact ⟨rfl, B1.out⟩
  have z1 : decide (1073741824 < a) = false := decide_eq_false h1
  by_cases h2 : a < -1073741824
  · have z2 : decide (a < -1073741824) = true := decide_eq_true h2
    go_wp2
    go_ret
    exact ⟨rfl, B1.out⟩
  have z2 : decide (a < -1073741824) = false := decide_eq_false h2
  by_cases h3 : 1073741824 < b
  · have z3 : decide (1073741824 < b) = true := decide_eq_true h3
    go_wp2
    go_ret
    exact ⟨rfl, B1.out⟩
  have z3 : decide (1073741824 < b) = false := decide_eq_false h3
  by_cases h4 : b < -1073741824
  · have z4 : decide (b < -1073741824) = true := decide_eq_true h4
    go_wp2
    go_ret
    exact ⟨rfl, B1.out⟩
  have z4 : decide (b < -1073741824) = false := decide_eq_false h4
  have ha : -1073741824 ≤ a ∧ a ≤ 1073741824 := by omega
  have hb : -1073741824 ≤ b ∧ b ≤ 1073741824 := by omega
  have hp : Ply k l := by have := GP.out; exact ply_of (by omega) (by omega) (by omega) (row_vals HLL.out)
  obtain ⟨p1, p2, p3⟩ := GP.out
  have fl := fill_len k l a b v
  have cO := fun (W : World) (b : Below w.heap.size w W) => S.of k l ao cap W (HL.out W b) (by omega) (by omega) (by omega)
  have cF := fun a2 c2 W h => F.fill k l a2 c2 a b v W h hp (by omega) ha hb HV.out
  have cRF := fun (W : World) (b' : Below w.heap.size w W) => fill_any k a b v l ao cap W (HL.out W b') (by unfold Lim; omega) (by omega) HV.out
  have cSm := fun a2 c2 a3 c3 W h1 h2 => same_any S k (fillL k l a b v) a2 c2 a3 c3 W h1 h2 (by omega) (by rw [fl]; omega)
  have cE := fun a2 c2 a3 c3 W h1 h2 => S.equal k l a2 c2 k l a3 c3 W h1 hp h2 hp
  rw [decide_eq_true (rfl : runsF k l = runsF k l)] at cE
  rw [fl] at cSm
  obtain ⟨L, hL⟩ : ∃ L, L = fillL k l a b v := ⟨_, rfl⟩
  rw [← hL] at cF cRF cSm
  obtain ⟨RF, hRF⟩ : ∃ R, R = runsF k L := ⟨_, rfl⟩
  rw [← hRF] at cF cSm
  obtain ⟨NF, hNF⟩ : ∃ N, N = RF.length := ⟨_, rfl⟩
  rw [← hNF] at cF cSm
  obtain ⟨R1, hR1⟩ : ∃ R, R = runsF k l := ⟨_, rfl⟩
  rw [← hR1] at cO cF cE
  obtain ⟨N1, hN1⟩ : ∃ N, N = R1.length := ⟨_, rfl⟩
  rw [← hN1] at cO cF cE
  have cO := hid cO; have cF := hid cF; have cRF := hid cRF; have cSm := hid cSm; have cE := hid cE
  have HA := hid ha; have HB := hid hb
  clear hp fl hL hRF hNF hR1 hN1 p1 p2 p3 h1 h2 h3 h4 ha hb
  go_wp2_with fail
  refine (cO.out w1 B1.out).mono ?_
  rintro e w2 ⟨⟨a2, c2, rfl, r2⟩, b2⟩
  obtain ⟨w3, hw3⟩ : ∃ W, W = w2.alloc (.cells #[.slice a2 N1 c2] 27) := ⟨_, rfl⟩
  obtain ⟨k3, hk3⟩ : ∃ k, k = w2.heap.size := ⟨_, rfl⟩
  have b23 : Below w2.heap.size w2 w3 := by rw [hw3]; exact bel_alloc _ _
  have X3 : Box w3 k3 [.slice a2 N1 c2] := by rw [hw3, hk3]; exact Box.new w2 [.slice a2 N1 c2] _
  have B3 := hid (bel_on (bel_on B1.out b2) b23)
  have HX3 := hid X3
  have R3 := hid (r2.on b23)
  have HW := hid hw3
  have HK := hid hk3
  have d0 := X3.cell 0 _ rfl
  have l3 := X3.lt
  clear b2 r2 hw3 hk3 b23 X3 z1 z2 z3 z4
  go_upto_region 6 with fail
  rw [← HW.out, ← HK.out]
  clear HW HK
  go_wp2_with fail
  refine (cF.out a2 c2 w3 R3.out).mono ?_
  rintro e w4 ⟨⟨a4, c4, rfl, r4⟩, b4⟩
  obtain ⟨w5, hw5⟩ : ∃ W, W = w4.alloc (.cells #[.slice a4 NF c4] 27) := ⟨_, rfl⟩
  obtain ⟨k5, hk5⟩ : ∃ k, k = w4.heap.size := ⟨_, rfl⟩
  have b45 : Below w4.heap.size w4 w5 := by rw [hw5]; exact bel_alloc _ _
  have b35 := bel_on b4 b45
  have X5 : Box w5 k5 [.slice a4 NF c4] := by rw [hw5, hk5]; exact Box.new w4 [.slice a4 NF c4] _
  have K := hid (fun (W : World) (b : Below w5.heap.size w5 W) => (⟨(HX3.out.on (bel_on b35 b)).cell 0 _ rfl, (X5.on b).cell 0 _ rfl, b⟩ : W.cell? ⟨k3, 0, none⟩ = some (.slice a2 N1 c2) ∧ W.cell? ⟨k5, 0, none⟩ = some (.slice a4 NF c4) ∧ Below w5.heap.size w5 W))
  have B5 := hid (fun (W : World) (b : Below w5.heap.size w5 W) => bel_on (bel_on B3.out b35) b)
  have R5 := hid (fun (W : World) (b : Below w5.heap.size w5 W) => (r4.on b45).on b)
  have R35 := hid (fun (W : World) (b : Below w5.heap.size w5 W) => (R3.out.on b35).on b)
  have d3 := (HX3.out.on b35).cell 0 _ rfl
  have d5 := X5.cell 0 _ rfl
  have HW := hid hw5
  have HK := hid hk5
  clear b4 r4 hw5 hk5 b45 b35 X5 cF HX3 R3 B3 d0 l3
  go_upto_region 7 with fail
  rw [← HW.out, ← HK.out]
  clear HW HK
  have B0 := Below.refl w5.heap.size w5
  go_cut [65] (fun u W => u = .bool false ∧ Hid (Below w5.heap.size w5 W))
  case first =>
    go_region_held3 (fun w' => w'.cell? ⟨k3, 0, none⟩ = some (.slice a2 N1 c2) ∧ w'.cell? ⟨k5, 0, none⟩ = some (.slice a4 NF c4) ∧ Below w5.heap.size w5 w')
      ((refine K.out _ ?_; repeat (first | assumption | exact Below.refl _ _ | (refine Below.drew ?_) | (refine bel_below ?_ ‹_›))))
      (first
      | (go_at_call 18
         refine (cRF.out _ (B5.out _ (by repeat (first | assumption | exact Below.refl _ _ | (refine Below.drew ?_) | (refine bel_below ?_ ‹_›))))).mono ?_
         rintro e w6 ⟨⟨a6, c6, rfl, r6⟩, hb6⟩)
      | (go_at_call 15
         refine (cSm.out a4 c4 a6 c6 _ (R5.out _ (by repeat (first | assumption | exact Below.refl _ _ | (refine Below.drew ?_) | (refine bel_below ?_ ‹_›)))) r6).mono ?_
         rintro e w7 ⟨rfl, hb7⟩)
      | (go_at_call 11
         refine (cO.out _ (B5.out _ (by repeat (first | assumption | exact Below.refl _ _ | (refine Below.drew ?_) | (refine bel_below ?_ ‹_›))))).mono ?_
         rintro e w8 ⟨⟨a8, c8, rfl, r8⟩, hb8⟩)
      | (go_at_call 14
         refine (cE.out a2 c2 a8 c8 _ (R35.out _ (by repeat (first | assumption | exact Below.refl _ _ | (refine Below.drew ?_) | (refine bel_below ?_ ‹_›)))) r8).mono ?_
         rintro e w9 ⟨rfl, hb9⟩))
    all_goals
      go_wp2
      go_meet
      refine ⟨rfl, hid ?_⟩
      repeat (first | assumption | exact Below.refl _ _ | (refine Below.drew ?_) | (refine bel_below ?_ ‹_›))
  case rest =>
    obtain ⟨rfl, hb⟩ := hcut
    obtain ⟨w6, hw6⟩ : ∃ W, W = wc := ⟨_, rfl⟩
    have B6 := hid (B5.out wc hb.out)
    rw [← hw6] at B6 ⊢
    clear hb hw6 B0 d3 d5 K cO cRF cSm cE B5 R5 R35
    have cFl := fun W => F.flat a b v W HA.out HB.out HV.out
    have pl := flat_ply (v := v) HA.out HB.out HV.out
    have cS := fun a2 c2 W h => S.span a (flatL a b v) a2 c2 W h pl
    have cC := fun a2 c2 W h => S.count a (flatL a b v) a2 c2 W h pl
    have cT := fun a2 c2 W h => S.at' a b (flatL a b v) a2 c2 W h pl (by have := HB.out; unfold Lim; omega)
    clear pl
    rcases Int.lt_or_le b a with hba | hba
    · have zb : decide (b < a) = true := decide_eq_true hba
      rw [flat_no hba] at cFl cS cC
      have cFl := hid cFl
      have cS := hid cS
      have cC := hid (fun a2 c2 W h => show Calls Try.prog 12 #[.agg #[.slice a2 0 c2]] W fun e w' => e = .returned (.int .i64 0) ∧ Below W.heap.size W w' from cC a2 c2 W h)
      clear cT hba
      go_wp2_with fail
      refine (cFl.out w6).mono ?_
      rintro e w7 ⟨⟨a7, c7, rfl, r7⟩, b7⟩
      obtain ⟨w8, hw8⟩ : ∃ W, W = w7.alloc (.cells #[.slice a7 0 c7] 27) := ⟨_, rfl⟩
      obtain ⟨k8, hk8⟩ : ∃ k, k = w7.heap.size := ⟨_, rfl⟩
      have b78 : Below w7.heap.size w7 w8 := by rw [hw8]; exact bel_alloc _ _
      have X8 : Box w8 k8 [.slice a7 0 c7] := by rw [hw8, hk8]; exact Box.new w7 [.slice a7 0 c7] _
      have R8 := hid (r7.on b78)
      have B8 := hid (bel_on (bel_on B6.out b7) b78)
      have HX := hid X8
      have HW := hid hw8
      have HK := hid hk8
      have d8 := X8.cell 0 _ rfl
      have l8 := X8.lt
      clear cFl b7 r7 hw8 hk8 b78 X8 B6
      rw [show (runsF a ([] : List Int)).length = 0 from rfl]
      go_upto_region 10 with fail
      rw [← HW.out, ← HK.out]
      clear HW HK
      go_wp2_with fail
      refine (cS.out a7 c7 w8 R8.out).mono ?_
      rintro e w9 ⟨rfl, b9⟩
      have B9 := hid (bel_on B8.out b9)
      have R9 := hid (R8.out.on b9)
      have d9 := (HX.out.on b9).cell 0 _ rfl
      have l9 := (HX.out.on b9).lt
      clear cS b9 d8 l8 HX R8 B8
      rw [show (spanR (runsF a ([] : List Int))).1 = 0 from rfl, show (spanR (runsF a ([] : List Int))).2.1 = 0 from rfl, show (spanR (runsF a ([] : List Int))).2.2 = false from rfl]
      go_wp2_with fail
      refine (cC.out a7 c7 w9 R9.out).mono ?_
      rintro e w10 ⟨rfl, b10⟩
      have BF := hid (bel_on B9.out b10)
      clear cC b10 d9 l9 R9 B9
      go_wp2
      go_ret
      exact ⟨rfl, BF.out⟩
    · have zb : decide (b < a) = false := decide_eq_false (by omega)
      rw [flat_span hba] at cS
      rw [flat_at hba] at cT
      rw [flat_runs hba] at cFl cS cC cT
      have cFl := hid cFl
      have cS := hid cS
      have cT := hid cT
      have cC := hid (fun a2 c2 W h => show Calls Try.prog 12 #[.agg #[.slice a2 1 c2]] W fun e w' => e = .returned (.int .i64 1) ∧ Below W.heap.size W w' from cC a2 c2 W h)
      clear hba
      go_wp2_with fail
      refine (cFl.out w6).mono ?_
      rintro e w7 ⟨⟨a7, c7, rfl, r7⟩, b7⟩
      obtain ⟨w8, hw8⟩ : ∃ W, W = w7.alloc (.cells #[.slice a7 1 c7] 27) := ⟨_, rfl⟩
      obtain ⟨k8, hk8⟩ : ∃ k, k = w7.heap.size := ⟨_, rfl⟩
      have b78 : Below w7.heap.size w7 w8 := by rw [hw8]; exact bel_alloc _ _
      have X8 : Box w8 k8 [.slice a7 1 c7] := by rw [hw8, hk8]; exact Box.new w7 [.slice a7 1 c7] _
      have R8 := hid (r7.on b78)
      have B8 := hid (bel_on (bel_on B6.out b7) b78)
      have HX := hid X8
      have HW := hid hw8
      have HK := hid hk8
      have d8 := X8.cell 0 _ rfl
      have l8 := X8.lt
      clear cFl b7 r7 hw8 hk8 b78 X8 B6
      rw [show ([(⟨a, b, v⟩ : Rn Int)]).length = 1 from rfl]
      go_upto_region 10 with fail
      rw [← HW.out, ← HK.out]
      clear HW HK
      go_wp2_with fail
      refine (cS.out a7 c7 w8 R8.out).mono ?_
      rintro e w9 ⟨rfl, b9⟩
      have B9 := hid (bel_on B8.out b9)
      have R9 := hid (R8.out.on b9)
      have HX9 := hid (HX.out.on b9)
      have d9 := HX9.out.cell 0 _ rfl
      have l9 := HX9.out.lt
      clear cS b9 d8 l8 HX R8 B8
      go_wp2_with fail
      refine (cT.out a7 c7 w9 R9.out).mono ?_
      rintro e w10 ⟨rfl, b10⟩
      have B10 := hid (bel_on B9.out b10)
      have R10 := hid (R9.out.on b10)
      have d10 := (HX9.out.on b10).cell 0 _ rfl
      have l10 := (HX9.out.on b10).lt
      clear cT b10 d9 l9 R9 B9 HX9
      have t1 : (a == a) = true := by simp
      have t2 : (b == b) = true := by simp
      have t3 : (v == v) = true := by simp
      rw [show vO (some v) = v from rfl, show bO (some v) = true from rfl]
      go_wp2_with fail
      refine (cC.out a7 c7 w10 R10.out).mono ?_
      rintro e w11 ⟨rfl, b11⟩
      have BF := hid (bel_on B10.out b11)
      clear cC b11 d10 l10 R10 B10
      go_wp2
      go_ret
      exact ⟨rfl, BF.out⟩
end Go.Proofs.Ytghhnimimccpoaa.L14
/- LineAgain (layer 14). -/
namespace Go.Proofs.Ytghhnimimccpoaa.L14
open Go.RowKit Go.Sort P Mm R6 R14
/-- What Map and Zip of package line answer, by LineAgain's own closures. -/
structure LnA : Prop where
  map : ∀ (k : Int) (l : List Int) (ao : Option Addr) (cap : Nat) (w : World), Row tRn w ao (runsF k l).length cap (runsF k l) → Ply k l →
    Calls Try.prog 25 #[.agg #[.slice ao (runsF k l).length cap], .func (.func 33) #[] #[]] w fun e w' => (∃ ao' cap', e = .returned (.agg #[.slice ao' (runsF k (l.map fun v => v)).length cap']) ∧ Row tRn w' ao' (runsF k (l.map fun v => v)).length cap' (runsF k (l.map fun v => v))) ∧ Below w.heap.size w w'
  zip : ∀ (k : Int) (l : List Int) (ao : Option Addr) (cap : Nat) (k' : Int) (l' : List Int) (bo : Option Addr) (bcap : Nat) (w : World), Row tRn w ao (runsF k l).length cap (runsF k l) → Ply k l → Row tRn w bo (runsF k' l').length bcap (runsF k' l') → Ply k' l' →
    Calls Try.prog 22 #[.agg #[.slice ao (runsF k l).length cap], .agg #[.slice bo (runsF k' l').length bcap], .func (.func 34) #[] #[]] w fun e w' => (∃ ao' cap', e = .returned (.agg #[.slice ao' (runsF (max k k') (zipL (fun a _ => a) k l k' l')).length cap']) ∧ Row tRn w' ao' (runsF (max k k') (zipL (fun a _ => a) k l k' l')).length cap' (runsF (max k k') (zipL (fun a _ => a) k l k' l'))) ∧ Below w.heap.size w w'
theorem zip_self (k : Int) (l : List Int) : zipL (fun a _ => a) k l k l = l := by
  unfold zipL
  rw [show (max k k - k).toNat = 0 by omega, List.drop_zero]
  apply List.ext_getElem?
  intro i
  rw [List.getElem?_zipWith]
  cases l[i]? <;> rfl
theorem atL_at {k : Int} {l : List Int} {i : Nat} {v : Int} (h : l[i]? = some v) : atL k l (k + (i : Int)) = some v := by
  unfold atL
  rw [if_neg (by omega), show (k + (i : Int) - k).toNat = i by omega, h]
set_option maxHeartbeats 4000000 in
set_option maxRecDepth 100000 in
theorem again_walk (S : Ln) (A : LnA) (k : Int) (l : List Int) (ao : Option Addr) (cap : Nat) (w : World) (hl : Row tInt w ao l.length cap l) :
    Calls Try.prog 8 #[.int .i64 k, .slice ao l.length cap] w fun e w' => e = .returned (.bool true) ∧ Below w.heap.size w w' := by
  have cA := hid (alive_any S w)
  have cG := great_any k l ao cap
  have lm := hl.hmax
  have lc := hl.hcap
  have HL := hid (fun (W : World) (b : Below w.heap.size w W) => hl.on b)
  rcases Bool.eq_false_or_eq_true (greatB k l) with g | g
  · rw [g] at cG
    have cG := hid cG
    clear g hl
    go_enter Try.func8, Try.ntmps8
    go_wp2_with fail
    refine cA.out.mono ?_
    rintro e w1 ⟨rfl, b1⟩
    have B1 := hid b1
    clear b1 cA
    go_wp2_with fail
    refine (cG.out w1 (HL.out w1 B1.out)).mono ?_
    rintro e w' ⟨rfl, rfl⟩
    clear cG
    go_wp2
    go_ret
    exact ⟨rfl, B1.out⟩
  obtain ⟨p1, p2, p3⟩ := great_not g
  rw [g] at cG
  have cG := hid cG
  have hp : Ply k l := ply_of (by omega) (by omega) (by omega) (row_vals hl)
  have cO := fun (W : World) a2 c2 (h : Row tInt W a2 l.length c2 l) => S.of k l a2 c2 W h (by omega) (by omega) (by omega)
  have cT := fun (x : Int) (hx : Lim x) a2 c2 W h => S.at' k x l a2 c2 W h hp hx
  have cM := fun a2 c2 W h => A.map k l a2 c2 W h hp
  have cZ := fun a2 c2 W h => A.zip k l a2 c2 k l a2 c2 W h hp h hp
  have cE := fun a2 c2 a3 c3 W h1 h2 => S.equal k l a2 c2 k l a3 c3 W h1 hp h2 hp
  rw [decide_eq_true (rfl : runsF k l = runsF k l)] at cE
  rw [show l.map (fun v => v) = l from List.map_id' l] at cM
  rw [zip_self, show max k k = k by omega] at cZ
  have VI := hid (row_vals hl)
  obtain ⟨R, hR⟩ : ∃ R, R = runsF k l := ⟨_, rfl⟩
  rw [← hR] at cO cT cM cZ cE
  obtain ⟨N, hN⟩ : ∃ N, N = R.length := ⟨_, rfl⟩
  rw [← hN] at cO cT cM cZ cE
  have cO := hid cO; have cT := hid cT; have cM := hid cM; have cZ := hid cZ; have cE := hid cE
  have GP := hid (show -1048576 ≤ k ∧ k ≤ 1048576 from ⟨p1, p2⟩)
  obtain ⟨i0, hi0, hz0, hz1, hz2⟩ := info_parts R14.info_int
  clear hp hN hR hl g p1 p2
  go_enter Try.func8, Try.ntmps8
  go_wp2_with fail
  refine cA.out.mono ?_
  rintro e w1 ⟨rfl, b1⟩
  have B1 := hid b1
  clear b1 cA
  go_wp2_with fail
  refine (cG.out w1 (HL.out w1 B1.out)).mono ?_
  rintro e w' ⟨rfl, rfl⟩
  clear cG
  go_wp2_with fail
  refine (cO.out w1 ao cap (HL.out w1 B1.out)).mono ?_
  rintro e w2 ⟨⟨a2, c2, rfl, r2⟩, b2⟩
  obtain ⟨w3, hw3⟩ : ∃ W, W = w2.alloc (.cells #[.slice a2 N c2] 27) := ⟨_, rfl⟩
  obtain ⟨k3, hk3⟩ : ∃ k, k = w2.heap.size := ⟨_, rfl⟩
  have b23 : Below w2.heap.size w2 w3 := by rw [hw3]; exact bel_alloc _ _
  have X3 : Box w3 k3 [.slice a2 N c2] := by rw [hw3, hk3]; exact Box.new w2 [.slice a2 N c2] _
  have B3 := bel_on (bel_on B1.out b2) b23
  have HX := hid (fun (W : World) (b : Below w3.heap.size w3 W) => (⟨X3.on b, (r2.on b23).on b, bel_on B3 b⟩ : Box W k3 [.slice a2 N c2] ∧ Row tRn W a2 N c2 R ∧ Below w.heap.size w W))
  have HW := hid hw3
  have HK := hid hk3
  have B0 := hid (Below.refl w3.heap.size w3)
  clear b2 r2 hw3 hk3 b23 X3 B3
  go_upto_region 6 with fail
  rw [← HW.out, ← HK.out]
  clear HW HK
  go_wp2
  go_loopw [6, 22] (fun v i wr => ∃ (V : Value) (i' : Nat), v = V ∧ i = .int .i64 (i' : Int) ∧ i' ≤ l.length ∧ Hid (wr.ownsRow w3.heap.size 3 1 V i' ((l.take i').flatMap intC)) ∧ Hid (Below w3.heap.size w3 wr)) (fun _ i _ => l.length - (intOf i).toNat)
  case atStart => exact ⟨_, 0, rfl, rfl, Nat.zero_le _, hid (World.ownsRow_nil _ _ _ _), B0⟩
  case round =>
    obtain ⟨V, i', rfl, rfl, hi, hO, hb⟩ := hrel
    clear B0
    have Y := HX.out wr hb.out
    have d0 := Y.1.cell 0 _ rfl
    have l3 := Y.1.lt
    by_cases hlt : i' < l.length
    · obtain ⟨v, hv⟩ : ∃ v, l[i']? = some v := ⟨_, List.getElem?_eq_getElem hlt⟩
      have gp := GP.out
      have wk : IntKind.i64.wrap (k + (i' : Int)) = k + (i' : Int) := wrap_l (by unfold I64; omega)
      have c1 := cT.out (k + (i' : Int)) (by unfold Lim; omega) a2 c2 wr Y.2.1
      rw [atL_at hv] at c1
      have c1 := hid c1
      have TK := hid (show (l.take (i' + 1)).flatMap intC = (l.take i').flatMap intC ++ intC v from flat_take hv)
      clear Y hv gp
      go_wp2_with fail
      refine c1.out.mono ?_
      rintro e w4 ⟨rfl, b4⟩
      have B4 := hid (bel_on hb.out b4)
      have oo := owns_on hO.out b4
      have hsz := B4.out.size
      clear c1 b4 d0 l3 hO hb
      rw [show vO (some v) = v from rfl, show bO (some v) = true from rfl]
      go_wp2_with (at_builtin; refine wpList_append_own _ rfl _ _ 22 rfl w3.heap.size 3 i0 (.int .i64 0) 1 8 Try.underlying22 hi0 hz0 hz1 hz2 rfl (by decide) _ _ _ rfl (oo.alloc _) ⟨w4.heap.size, 0, none⟩ 1 1 (intC v) rfl rfl (news_at w4 (intC v) _) (by simp [intC, Value.oneCell']) (by unfold maxLen; omega) (by omega) (by simp; omega) ?_)
      intro v5 w5 hown hgrow _
      have B5 := hid ((B4.out.alloc hsz _).grown hgrow (B4.out.alloc hsz _).size (fun j hj => (oo.lt j hj).1))
      have O5 := hid (show w5.ownsRow w3.heap.size 3 1 v5 (i' + 1) ((l.take (i' + 1)).flatMap intC) by rw [TK.out]; exact hown)
      clear hown hgrow oo TK B4
      go_wp2
      go_roundw
      case rel => exact ⟨_, i' + 1, rfl, by simp, by omega, O5, B5⟩
      case measure => simp [intOf]; omega
    · obtain rfl : i' = l.length := by omega
      have oV := hO.out
      rw [List.take_length] at oV
      obtain ⟨ao2, cp, e, R2⟩ := row_own (n := 1) (cells := intC) (ok := I64) (hn := fun _ => rfl) oV VI.out
      subst e
      have RB := hid R2
      have RL := hid Y.2.1
      have HX3 := hid Y.1
      have BR := hid hb.out
      have hcp := R2.hcap
      have hcm := R2.hmax
      obtain ⟨wq, hwq⟩ : ∃ W, W = wr := ⟨_, rfl⟩
      rw [← hwq] at d0 l3 RB RL HX3 BR ⊢
      clear oV R2 Y hO hb hwq
      go_wp2_with fail
      refine (cM.out a2 c2 wq RL.out).mono ?_
      rintro e w4 ⟨⟨a4, c4, rfl, r4⟩, b4⟩
      obtain ⟨w5, hw5⟩ : ∃ W, W = w4.alloc (.cells #[.slice a4 N c4] 27) := ⟨_, rfl⟩
      obtain ⟨k5, hk5⟩ : ∃ k, k = w4.heap.size := ⟨_, rfl⟩
      have b45 : Below w4.heap.size w4 w5 := by rw [hw5]; exact bel_alloc _ _
      have X5 : Box w5 k5 [.slice a4 N c4] := by rw [hw5, hk5]; exact Box.new w4 [.slice a4 N c4] _
      have bq5 := bel_on b4 b45
      have R5 := hid (r4.on b45)
      have HX5 := hid X5
      have RB5 := hid (RB.out.on bq5)
      have RL5 := hid (RL.out.on bq5)
      have HX35 := hid (HX3.out.on bq5)
      have B5 := hid (bel_on BR.out bq5)
      have d5 := HX35.out.cell 0 _ rfl
      have l5 := HX35.out.lt
      have HW := hid hw5
      have HK := hid hk5
      clear b4 r4 hw5 hk5 b45 X5 bq5 cM d0 l3 RB RL HX3 BR
      go_upto_region 16 with fail
      rw [← HW.out, ← HK.out]
      clear HW HK
      go_wp2_with fail
      refine (cZ.out a2 c2 w5 RL5.out).mono ?_
      rintro e w6 ⟨⟨a6, c6, rfl, r6⟩, b6⟩
      obtain ⟨w7, hw7⟩ : ∃ W, W = w6.alloc (.cells #[.slice a6 N c6] 27) := ⟨_, rfl⟩
      obtain ⟨k7, hk7⟩ : ∃ k, k = w6.heap.size := ⟨_, rfl⟩
      have b67 : Below w6.heap.size w6 w7 := by rw [hw7]; exact bel_alloc _ _
      have X7 : Box w7 k7 [.slice a6 N c6] := by rw [hw7, hk7]; exact Box.new w6 [.slice a6 N c6] _
      have b57 := bel_on b6 b67
      have K := hid (fun (W : World) (b : Below w7.heap.size w7 W) => (⟨(HX35.out.on (bel_on b57 b)).cell 0 _ rfl, (HX5.out.on (bel_on b57 b)).cell 0 _ rfl, (X7.on b).cell 0 _ rfl, b⟩ : W.cell? ⟨k3, 0, none⟩ = some (.slice a2 N c2) ∧ W.cell? ⟨k5, 0, none⟩ = some (.slice a4 N c4) ∧ W.cell? ⟨k7, 0, none⟩ = some (.slice a6 N c6) ∧ Below w7.heap.size w7 W))
      have RR := hid (fun (W : World) (b : Below w7.heap.size w7 W) => (⟨RL5.out.on (bel_on b57 b), R5.out.on (bel_on b57 b), (r6.on b67).on b, RB5.out.on (bel_on b57 b), (HX.out W (bel_on (bel_on B5.out b57) b)).2.2⟩ : Row tRn W a2 N c2 R ∧ Row tRn W a4 N c4 R ∧ Row tRn W a6 N c6 R ∧ Row tInt W ao2 l.length cp l ∧ Below w.heap.size w W))
      have d3 := (HX35.out.on b57).cell 0 _ rfl
      have d5 := (HX5.out.on b57).cell 0 _ rfl
      have d7 := X7.cell 0 _ rfl
      have HW := hid hw7
      have HK := hid hk7
      clear b6 r6 hw7 hk7 b67 X7 b57 cZ l5 HX5 HX35 RB5 RL5 R5 B5
      go_upto_region 17 with fail
      rw [← HW.out, ← HK.out]
      clear HW HK
      have B0 := Below.refl w7.heap.size w7
      go_region_held3 (fun w' => w'.cell? ⟨k3, 0, none⟩ = some (.slice a2 N c2) ∧ w'.cell? ⟨k5, 0, none⟩ = some (.slice a4 N c4) ∧ w'.cell? ⟨k7, 0, none⟩ = some (.slice a6 N c6) ∧ Below w7.heap.size w7 w')
        ((refine K.out _ ?_; repeat (first | assumption | exact Below.refl _ _ | (refine Below.drew ?_) | (refine bel_below ?_ ‹_›))))
        (first
        | (go_at_call 11
           refine (cO.out _ ao2 cp (RR.out _ (by repeat (first | assumption | exact Below.refl _ _ | (refine Below.drew ?_) | (refine bel_below ?_ ‹_›)))).2.2.2.1).mono ?_
           rintro e w8 ⟨⟨a8, c8, rfl, r8⟩, hb8⟩)
        | (go_at_call_of 14 (Value.agg #[Value.slice a8 N c8])
           refine (cE.out a2 c2 a8 c8 _ (RR.out _ (by repeat (first | assumption | exact Below.refl _ _ | (refine Below.drew ?_) | (refine bel_below ?_ ‹_›)))).1 r8).mono ?_
           rintro e w9 ⟨rfl, hb9⟩)
        | (go_at_call_of 14 (Value.agg #[Value.slice a4 N c4])
           refine (cE.out a2 c2 a4 c4 _ (RR.out _ (by repeat (first | assumption | exact Below.refl _ _ | (refine Below.drew ?_) | (refine bel_below ?_ ‹_›)))).1 (RR.out _ (by repeat (first | assumption | exact Below.refl _ _ | (refine Below.drew ?_) | (refine bel_below ?_ ‹_›)))).2.1).mono ?_
           rintro e w10 ⟨rfl, hb10⟩)
        | (go_at_call_of 14 (Value.agg #[Value.slice a6 N c6])
           refine (cE.out a2 c2 a6 c6 _ (RR.out _ (by repeat (first | assumption | exact Below.refl _ _ | (refine Below.drew ?_) | (refine bel_below ?_ ‹_›)))).1 (RR.out _ (by repeat (first | assumption | exact Below.refl _ _ | (refine Below.drew ?_) | (refine bel_below ?_ ‹_›)))).2.2.1).mono ?_
           rintro e w11 ⟨rfl, hb11⟩))
      all_goals
        go_wp2
        go_ret
        refine ⟨rfl, (RR.out _ ?_).2.2.2.2⟩
        repeat (first | assumption | exact Below.refl _ _ | (refine Below.drew ?_) | (refine bel_below ?_ ‹_›))
end Go.Proofs.Ytghhnimimccpoaa.L14

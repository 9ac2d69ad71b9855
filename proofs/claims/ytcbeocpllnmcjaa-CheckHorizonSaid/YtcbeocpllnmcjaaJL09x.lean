/- The laws of layer 9: CheckHorizon. -/
import Derived.Test.YtcbeocpllnmcjaaJShR
import Derived.Test.YtcbeocpllnmcjaaJRef3e
import Derived.Deep.RegionHeld3
namespace Go.Proofs.Ytcbeocpllnmcjaa.L09
open Go.RowKit Go.Sort P Mm Md R6 R9 Cc
theorem next_day {y m d : Int} (g : good y m d = true) (h : num y m d + 1 < 3652059) :
    (good y m (d + 1) = true ∧ num y m (d + 1) = num y m d + 1) ∨
    (d = days y m ∧ ∃ y' m', good y' m' 1 = true ∧ num y' m' 1 = num y m d + 1) := by
  obtain ⟨h0, h1, h2, h3, h4, h5⟩ := good_iff.1 g
  have hst := mon_step (y := y) h2 h3
  by_cases hd : d < days y m
  · exact .inl ⟨good_iff.2 ⟨h0, h1, h2, h3, by omega, by omega⟩, by unfold num; omega⟩
  · refine .inr ⟨by omega, ?_⟩
    by_cases hm : m < 12
    · have := days_in (y := y) (m := m + 1) (by omega) (by omega)
      exact ⟨y, m + 1, good_iff.2 ⟨h0, h1, by omega, by omega, by omega, by omega⟩, by unfold num; rw [hst]; omega⟩
    · obtain rfl : m = 12 := by omega
      have hy := yrs_step y
      have h13 := mon_13 y
      rw [show (12 : Int) + 1 = 13 from rfl, h13] at hst
      have e : yrs (y + 1) = num y 12 d + 1 := by unfold num; omega
      have hlt : y < 9999 := by
        rcases Decidable.em (y < 9999) with k | k
        · exact k
        · obtain rfl : y = 9999 := by omega
          rw [show (9999 : Int) + 1 = 10000 from rfl, yrs_10000] at e
          omega
      have := days_in (y := y + 1) (m := 1) (by omega) (by omega)
      exact ⟨y + 1, 1, good_iff.2 ⟨by omega, by omega, by omega, by omega, by omega, by omega⟩, by unfold num; rw [mon_1]; unfold num at e; omega⟩
theorem day_of (n : Nat) : (n : Int) < 3652059 → ∃ y m d, good y m d = true ∧ num y m d = (n : Int) := by
  induction n with
  | zero => intro _; exact ⟨1, 1, 1, by decide, by decide⟩
  | succ n ih =>
    intro h
    obtain ⟨y, m, d, g, e⟩ := ih (by omega)
    rcases next_day g (by omega) with ⟨g', e'⟩ | ⟨_, y', m', g', e'⟩
    · exact ⟨y, m, d + 1, g', by omega⟩
    · exact ⟨y', m', 1, g', by omega⟩
theorem al_on {w W : World} (h : Below w.heap.size w W) (o : Obj) : Below w.heap.size w (W.alloc o) := h.alloc h.size o
theorem day_at {n : Int} (h0 : 0 ≤ n) (h1 : n ≤ 3652058) : ∃ d : Day, DayOk d ∧ dn d = n := by
  obtain ⟨y, m, d, g, e⟩ := day_of n.toNat (by omega)
  exact ⟨⟨y, m, d⟩, g, by show num y m d = n; omega⟩
theorem of3 {d : Day} (g : DayOk d) {n : Int} (e : dn d = n) (w : World) : Calls Try.prog 5 #[.int .i64 n] w fun e w' => e = .returned (.tuple #[.agg #[.int .i64 d.y, .int .i64 d.m, .int .i64 d.d], .bool true]) ∧ Below w.heap.size w w' := by
  have hb := num_bound g
  have e2 : num d.y d.m d.d = n := e
  refine R3.of_walk n _ w (hid fun k => ?_) (hid fun y' m' d' g' e' => ?_)
  · omega
  · obtain ⟨h1, h2, h3⟩ := num_inj g' g (by rw [e', e2])
    rw [h1, h2, h3]
theorem text3 (d : Day) (g : DayOk d) (w : World) : Calls Try.prog 7 #[.agg #[.int .i64 d.y, .int .i64 d.m, .int .i64 d.d]] w fun e w' => e = .returned (.string ⟨(dayT d).toArray⟩) ∧ Below w.heap.size w w' := by
  have := R3.text_yes d.y d.m d.d w g
  unfold dayT
  rw [show good d.y d.m d.d = true from g]
  exact this
theorem hor_text (A B : Day) {S : ByteArray} (hS : S = (⟨#[112, 108, 97, 110, 32, 112, 32, 99, 117, 114, 114, 101, 110, 99, 121, 32, 99, 59, 10, 32, 104, 111, 114, 105, 122, 111, 110, 32]⟩ : ByteArray) ++ ⟨(dayT A).toArray⟩ ++ ⟨#[32]⟩ ++ ⟨(dayT B).toArray⟩ ++ ⟨#[59]⟩) : S.data.toList = horT A B := by
  rw [hS]
  unfold horT
  simp [ByteArray.data_append]
set_option maxHeartbeats 16000000 in
set_option maxRecDepth 100000 in
theorem hor_walk (a b : Int) (w : World) : Calls Try.prog 3 #[.int .i64 a, .int .i64 b] w fun e w' => e = .returned (.bool true) ∧ Below w.heap.size w w' := by
  have cA := hid (alive_any w)
  rcases (show a < 0 ∨ (0 ≤ a ∧ b < 0) ∨ (0 ≤ a ∧ 0 ≤ b ∧ 3652058 < a) ∨ (0 ≤ a ∧ 0 ≤ b ∧ a ≤ 3652058 ∧ 3652058 < b) ∨ (0 ≤ a ∧ 0 ≤ b ∧ a ≤ 3652058 ∧ b ≤ 3652058) by omega) with h | ⟨h0, h⟩ | ⟨h0, h1, h⟩ | ⟨h0, h1, h2, h⟩ | ⟨a0, b0, a1, b1⟩
  all_goals try (
    go_enter Try.func3, Try.ntmps3
    go_wp2_with fail
    refine cA.out.mono ?_
    rintro e w1 ⟨rfl, b1⟩
    have BF := hid b1
    clear b1
    go_wp2
    go_ret
    exact ⟨rfl, BF.out⟩)
  obtain ⟨A, gA, nA⟩ := day_at a0 a1
  obtain ⟨B, gB, nB⟩ := day_at b0 b1
  have cOa := hid (fun W => of3 gA nA W)
  have cOb := hid (fun W => of3 gB nB W)
  obtain ⟨TA, hTA⟩ : ∃ S : ByteArray, S = ⟨(dayT A).toArray⟩ := ⟨_, rfl⟩
  obtain ⟨TB, hTB⟩ : ∃ S : ByteArray, S = ⟨(dayT B).toArray⟩ := ⟨_, rfl⟩
  have zA : TA.size ≤ 10 := by rw [hTA, ba_size]; exact dayT_len _
  have zB : TB.size ≤ 10 := by rw [hTB, ba_size]; exact dayT_len _
  obtain ⟨S, hS⟩ : ∃ S : ByteArray, S = (⟨#[112, 108, 97, 110, 32, 112, 32, 99, 117, 114, 114, 101, 110, 99, 121, 32, 99, 59, 10, 32, 104, 111, 114, 105, 122, 111, 110, 32]⟩ : ByteArray) ++ TA ++ ⟨#[32]⟩ ++ TB ++ ⟨#[59]⟩ := ⟨_, rfl⟩
  have s1 : ¬ 9223372036854775807 < 28 + TA.size := by omega
  have s2 : ¬ 9223372036854775807 < 28 + TA.size + 1 := by omega
  have s3 : ¬ 9223372036854775807 < 28 + TA.size + 1 + TB.size := by omega
  have s4 : ¬ 9223372036854775807 < 28 + TA.size + 1 + TB.size + 1 := by omega
  have hl : S.data.toList = horT A B := hor_text A B (by rw [hS, hTA, hTB])
  have hpar := hor_parsed gA gB
  have zS : S.size ≤ 8192 := by
    rw [hS, ByteArray.size_append, ByteArray.size_append, ByteArray.size_append, ByteArray.size_append]
    show 28 + _ + 1 + _ + 1 ≤ _
    omega
  have ok : okT S = true := by unfold okT; rw [hl, hpar, decide_eq_true zS]; rfl
  have cT1 := hid (fun W => text3 A gA W)
  have cT2 := hid (fun W => text3 B gB W)
  rw [← hTA] at cT1
  rw [← hTB] at cT2
  have cF := hid (fun W => of_far S W)
  obtain ⟨p, hp⟩ : ∃ p, p = horP A B := ⟨_, rfl⟩
  have PP : Pl9 p := by
    have := pl9_of (l := horT A B) (by rw [hpar])
    rw [hpar] at this
    rw [hp]; exact this
  have WR : Hid (wrongOf p = if b < a then (5, 1, 1) else if 3999 < b - a then (6, 1, 1) else (0, 0, 0)) := hid (by rw [hp, hor_wrong, nA, nB])
  rw [hl, ok, hpar] at cF
  simp only at cF
  rw [← hp] at cF
  unfold planC at cF
  rw [hS] at cF
  have cQ := hid (fun W ma mc fa fc ca cc (h : PlanLies W (planC p ma mc fa fc ca cc) p ma mc fa fc ca cc) => Cc.plan_any p ma mc fa fc ca cc W h PP)
  rw [WR.out] at cQ
  have HP := hid PP
  clear WR
  clear PP hp hpar hl ok zS hTA hTB nA nB gA gB hS
  go_enter Try.func3, Try.ntmps3
  go_wp2_with fail
  refine cA.out.mono ?_
  rintro e w1 ⟨rfl, bb1⟩
  have B1 := hid bb1
  clear bb1 cA
  go_wp2_with fail
  refine (cOa.out w1).mono ?_
  rintro e w2 ⟨rfl, bb2⟩
  obtain ⟨w3, hw3⟩ : ∃ W, W = w2.alloc (.cells #[.int .i64 A.y, .int .i64 A.m, .int .i64 A.d] 24) := ⟨_, rfl⟩
  obtain ⟨kA, hkA⟩ : ∃ k, k = w2.heap.size := ⟨_, rfl⟩
  have X3 : Box w3 kA [.int .i64 A.y, .int .i64 A.m, .int .i64 A.d] := by rw [hw3, hkA]; exact Box.new _ _ _
  have B3 := hid (show Below w.heap.size w w3 by rw [hw3]; exact bel_on (bel_on B1.out bb2) (bel_alloc _ _))
  have HX3 := hid X3
  have HW3 := hid hw3
  have HKA := hid hkA
  clear bb2 hw3 hkA X3 cOa B1
  go_upto_region 6 with fail
  rw [← HW3.out, ← HKA.out]
  clear HW3 HKA
  go_wp2_with fail
  refine (cOb.out w3).mono ?_
  rintro e w4 ⟨rfl, bb4⟩
  obtain ⟨w5, hw5⟩ : ∃ W, W = w4.alloc (.cells #[.int .i64 B.y, .int .i64 B.m, .int .i64 B.d] 24) := ⟨_, rfl⟩
  obtain ⟨kB, hkB⟩ : ∃ k, k = w4.heap.size := ⟨_, rfl⟩
  have X5 : Box w5 kB [.int .i64 B.y, .int .i64 B.m, .int .i64 B.d] := by rw [hw5, hkB]; exact Box.new _ _ _
  have b5 : Below w4.heap.size w4 w5 := by rw [hw5]; exact bel_alloc _ _
  have B5 := hid (bel_on B3.out (bel_on bb4 b5))
  have XA := hid (HX3.out.on (bel_on bb4 b5))
  have XB := hid X5
  have HW5 := hid hw5
  have HKB := hid hkB
  clear bb4 b5 hw5 hkB X5 cOb B3 HX3
  go_upto_region 7 with fail
  rw [← HW5.out, ← HKB.out]
  clear HW5 HKB
  have KS : Hid (∀ W, Below w5.heap.size w5 W → W.cell? ⟨kA, 0, none⟩ = some (.int .i64 A.y) ∧ W.cell? ⟨kA, 1, none⟩ = some (.int .i64 A.m) ∧ W.cell? ⟨kA, 2, none⟩ = some (.int .i64 A.d) ∧ W.cell? ⟨kB, 0, none⟩ = some (.int .i64 B.y) ∧ W.cell? ⟨kB, 1, none⟩ = some (.int .i64 B.m) ∧ W.cell? ⟨kB, 2, none⟩ = some (.int .i64 B.d) ∧ Below w5.heap.size w5 W) := hid fun W bw => ⟨(XA.out.on bw).cell 0 _ rfl, (XA.out.on bw).cell 1 _ rfl, (XA.out.on bw).cell 2 _ rfl, (XB.out.on bw).cell 0 _ rfl, (XB.out.on bw).cell 1 _ rfl, (XB.out.on bw).cell 2 _ rfl, bw⟩
  refine wp_region_held_drew (S := (fun w' => w'.cell? ⟨kA, 0, none⟩ = some (.int .i64 A.y) ∧ w'.cell? ⟨kA, 1, none⟩ = some (.int .i64 A.m) ∧ w'.cell? ⟨kA, 2, none⟩ = some (.int .i64 A.d) ∧ w'.cell? ⟨kB, 0, none⟩ = some (.int .i64 B.y) ∧ w'.cell? ⟨kB, 1, none⟩ = some (.int .i64 B.m) ∧ w'.cell? ⟨kB, 2, none⟩ = some (.int .i64 B.d) ∧ Below w5.heap.size w5 w')) (by kernel_rfl) ?_ (fun hHeld => ?_)
  · exact KS.out _ (Below.drew (Below.refl _ _))
  have B100 := Below.drew (Below.refl w5.heap.size w5)
  refine wpAnyH_take (i := 0) (oi := (Oper.mk (some 39) (Op.load 24 (Operand.tmp 5)) _ _ _ _)) (v := ?_) rfl (by kernel_rfl) (by kernel_rfl) (by kernel_rfl) (fun _ _ _ h => h) (Or.inl ⟨by rfl, ?_⟩) (by assumption) ?_
  rotate_left
  · intro w hSw
    (try dsimp only at hSw)
    go_simp
    all_goals (try with_reducible rfl)
  try simp only [Act.put, List.setIfInBounds_toArray, List.set_cons_zero, List.set_cons_succ]
  refine wpAnyH_take (i := 4) (oi := (Oper.mk (some 43) (Op.load 24 (Operand.tmp 7)) _ _ _ _)) (v := ?_) rfl (by kernel_rfl) (by kernel_rfl) (by kernel_rfl) (fun _ _ _ h => h) (Or.inl ⟨by rfl, ?_⟩) (by assumption) ?_
  rotate_left
  · intro w hSw
    (try dsimp only at hSw)
    go_simp
    all_goals (try with_reducible rfl)
  try simp only [Act.put, List.setIfInBounds_toArray, List.set_cons_zero, List.set_cons_succ]
  refine wpAnyH_ready (rs := [1, 12]) (by kernel_rfl) (by simp) ?_
  refine AllReadyH.cons (o := (Oper.mk (some 40) (Op.call _) _ _ _ _)) rfl (fun K hK => ?_) ?_
  · go_simp
    (go_at_call_of 7 (Value.agg #[.int .i64 A.y, .int .i64 A.m, .int .i64 A.d]); refine (cT1.out _).mono ?_; rintro e wa ⟨rfl, ba⟩)
    have B101 := bel_on B100 ba
    refine hK.out _ _ ?_ (fun hHeld => ?_)
    · exact KS.out _ B101
    clear hK K
    try simp only [Act.put, List.setIfInBounds_toArray, List.set_cons_zero, List.set_cons_succ]
    refine wpAnyH_take (i := 2) (oi := (Oper.mk (some 41) (Op.binOp _ _ _ _ _) _ _ _ _)) (v := ?_) rfl (by kernel_rfl) (by kernel_rfl) (by kernel_rfl) (fun _ _ _ h => h) (Or.inl ⟨by rfl, ?_⟩) (by assumption) ?_
    rotate_left
    · intro w hSw
      (try dsimp only at hSw)
      go_simp
      all_goals (try with_reducible rfl)
    try simp only [Act.put, List.setIfInBounds_toArray, List.set_cons_zero, List.set_cons_succ]
    refine wpAnyH_take (i := 3) (oi := (Oper.mk (some 42) (Op.binOp _ _ _ _ _) _ _ _ _)) (v := ?_) rfl (by kernel_rfl) (by kernel_rfl) (by kernel_rfl) (fun _ _ _ h => h) (Or.inl ⟨by rfl, ?_⟩) (by assumption) ?_
    rotate_left
    · intro w hSw
      (try dsimp only at hSw)
      go_simp
      all_goals (try with_reducible rfl)
    try simp only [Act.put, List.setIfInBounds_toArray, List.set_cons_zero, List.set_cons_succ]
    refine wpAnyH_ready (rs := [5, 12]) (by kernel_rfl) (by simp) ?_
    refine AllReadyH.cons (o := (Oper.mk (some 44) (Op.call _) _ _ _ _)) rfl (fun K hK => ?_) ?_
    · go_simp
      (go_at_call 7; refine (cT2.out _).mono ?_; rintro e wb ⟨rfl, bb⟩)
      have B102 := bel_on B101 bb
      refine hK.out _ _ ?_ (fun hHeld => ?_)
      · exact KS.out _ B102
      clear hK K
      try simp only [Act.put, List.setIfInBounds_toArray, List.set_cons_zero, List.set_cons_succ]
      refine wpAnyH_take (i := 6) (oi := (Oper.mk (some 45) (Op.binOp _ _ _ _ _) _ _ _ _)) (v := ?_) rfl (by kernel_rfl) (by kernel_rfl) (by kernel_rfl) (fun _ _ _ h => h) (Or.inl ⟨by rfl, ?_⟩) (by assumption) ?_
      rotate_left
      · intro w hSw
        (try dsimp only at hSw)
        go_simp
        all_goals (try with_reducible rfl)
      try simp only [Act.put, List.setIfInBounds_toArray, List.set_cons_zero, List.set_cons_succ]
      refine wpAnyH_take (i := 7) (oi := (Oper.mk (some 46) (Op.binOp _ _ _ _ _) _ _ _ _)) (v := ?_) rfl (by kernel_rfl) (by kernel_rfl) (by kernel_rfl) (fun _ _ _ h => h) (Or.inl ⟨by rfl, ?_⟩) (by assumption) ?_
      rotate_left
      · intro w hSw
        (try dsimp only at hSw)
        go_simp
        all_goals (try with_reducible rfl)
      try simp only [Act.put, List.setIfInBounds_toArray, List.set_cons_zero, List.set_cons_succ]
      refine wpAnyH_ready (rs := [8, 12]) (by kernel_rfl) (by simp) ?_
      refine AllReadyH.cons (o := (Oper.mk (some 47) (Op.call _) _ _ _ _)) rfl (fun K hK => ?_) ?_
      · go_simp
        (go_at_call 6; refine (cF.out _).mono ?_; rintro e wc ⟨ma, mc, fa, fc, ca, cc, rfl, lp, bc, lpf⟩)
        have B103 := bel_on B102 bc
        refine hK.out _ _ ?_ (fun hHeld => ?_)
        · exact KS.out _ B103
        clear hK K
        try simp only [Act.put, List.setIfInBounds_toArray, List.set_cons_zero, List.set_cons_succ]
        refine wpAnyH_take (i := 9) (oi := (Oper.mk (some 38) (Op.move _) _ _ _ _)) (v := ?_) rfl (by kernel_rfl) (by kernel_rfl) (by kernel_rfl) (fun _ _ _ h => h) (Or.inl ⟨by rfl, ?_⟩) (by assumption) ?_
        rotate_left
        · intro w hSw
          (try dsimp only at hSw)
          go_simp
          all_goals (try with_reducible rfl)
        try simp only [Act.put, List.setIfInBounds_toArray, List.set_cons_zero, List.set_cons_succ]
        refine wpAnyH_take (i := 10) (oi := (Oper.mk (some 48) (Op.extract _ _) _ _ _ _)) (v := ?_) rfl (by kernel_rfl) (by kernel_rfl) (by kernel_rfl) (fun _ _ _ h => h) (Or.inl ⟨by rfl, ?_⟩) (by assumption) ?_
        rotate_left
        · intro w hSw
          (try dsimp only at hSw)
          go_simp
          all_goals (try with_reducible rfl)
        try simp only [Act.put, List.setIfInBounds_toArray, List.set_cons_zero, List.set_cons_succ]
        refine wpAnyH_take (i := 11) (oi := (Oper.mk (some 49) (Op.extract _ _) _ _ _ _)) (v := ?_) rfl (by kernel_rfl) (by kernel_rfl) (by kernel_rfl) (fun _ _ _ h => h) (Or.inl ⟨by rfl, ?_⟩) (by assumption) ?_
        rotate_left
        · intro w hSw
          (try dsimp only at hSw)
          go_simp
          all_goals (try with_reducible rfl)
        try simp only [Act.put, List.setIfInBounds_toArray, List.set_cons_zero, List.set_cons_succ]
        refine wpAnyH_ready (rs := [12]) (by kernel_rfl) (by simp) ?_
        refine AllReadyH.cons (o := (Oper.mk (some 9) (Op.alloc 31) _ _ _ _)) rfl (fun K hK => ?_) ?_
        · go_simp
          have B104 := al_on B103 (.cells ([.string ⟨#[]⟩, .string ⟨#[]⟩, .int .i64 0, .int .i64 0, .int .i64 0, .int .i64 0, .int .i64 0, .int .i64 0, .slice none 0 0, .slice none 0 0, .slice none 0 0, .int .i64 0, .int .i64 0] : List Value).toArray 31)
          have G104 := B103.size
          have T104 := there_new wc [.string ⟨#[]⟩, .string ⟨#[]⟩, .int .i64 0, .int .i64 0, .int .i64 0, .int .i64 0, .int .i64 0, .int .i64 0, .slice none 0 0, .slice none 0 0, .slice none 0 0, .int .i64 0, .int .i64 0] 31 (n := 13) rfl
          have L104 : wc.heap.size < (wc.alloc (.cells ([.string ⟨#[]⟩, .string ⟨#[]⟩, .int .i64 0, .int .i64 0, .int .i64 0, .int .i64 0, .int .i64 0, .int .i64 0, .slice none 0 0, .slice none 0 0, .slice none 0 0, .int .i64 0, .int .i64 0] : List Value).toArray 31)).heap.size := by simp
          refine hK.out _ _ ?_ (fun hHeld => ?_)
          · exact KS.out _ B104
          clear hK K
          try simp only [Act.put, List.setIfInBounds_toArray, List.set_cons_zero, List.set_cons_succ]
          refine wpAnyH_ready (rs := [13]) (by kernel_rfl) (by simp) ?_
          refine AllReadyH.cons (o := (Oper.mk none (Op.store 31 (Operand.tmp 9) (Operand.tmp 48)) _ _ _ _)) rfl (fun K hK => ?_) AllReadyH.nil
          rw [if_pos (by rfl)]
          refine wp_store_mid 31 (.tmp 9) (.tmp 48) rfl _ 0 #[.string p.name, .string p.cur, .int .i64 p.a.y, .int .i64 p.a.m, .int .i64 p.a.d, .int .i64 p.b.y, .int .i64 p.b.m, .int .i64 p.b.d, .slice ma p.meters.length mc, .slice fa p.fees.length fc, .slice ca p.charges.length cc, .int .i64 p.line, .int .i64 p.col] rfl rfl T104 (by kernel_rfl) (by simp [Value.oneCell']) ?_
          have BZ := below_setCells G104 [.string p.name, .string p.cur, .int .i64 p.a.y, .int .i64 p.a.m, .int .i64 p.a.d, .int .i64 p.b.y, .int .i64 p.b.m, .int .i64 p.b.d, .slice ma p.meters.length mc, .slice fa p.fees.length fc, .slice ca p.charges.length cc, .int .i64 p.line, .int .i64 p.col] 0 _ B104
          have LZ := lp.on (show Below wc.heap.size wc _ from below_setCells (Nat.le_refl wc.heap.size) [.string p.name, .string p.cur, .int .i64 p.a.y, .int .i64 p.a.m, .int .i64 p.a.d, .int .i64 p.b.y, .int .i64 p.b.m, .int .i64 p.b.d, .slice ma p.meters.length mc, .slice fa p.fees.length fc, .slice ca p.charges.length cc, .int .i64 p.line, .int .i64 p.col] 0 _ (al_on (Below.refl wc.heap.size wc) (.cells ([.string ⟨#[]⟩, .string ⟨#[]⟩, .int .i64 0, .int .i64 0, .int .i64 0, .int .i64 0, .int .i64 0, .int .i64 0, .slice none 0 0, .slice none 0 0, .slice none 0 0, .int .i64 0, .int .i64 0] : List Value).toArray 31)))
          have RZ := World.rangeAt_setCells_same _ _ _ [.string p.name, .string p.cur, .int .i64 p.a.y, .int .i64 p.a.m, .int .i64 p.a.d, .int .i64 p.b.y, .int .i64 p.b.m, .int .i64 p.b.d, .slice ma p.meters.length mc, .slice fa p.fees.length fc, .slice ca p.charges.length cc, .int .i64 p.line, .int .i64 p.col] T104
          refine hK.out _ _ ?_ (fun hHeld => ?_)
          · exact KS.out _ BZ
          clear hK K
          refine wpAnyH_take (i := 14) (oi := (Oper.mk (some 10) (Op.assign _) _ _ _ _)) (v := ?_) rfl (by kernel_rfl) (by kernel_rfl) (by kernel_rfl) (fun _ _ _ h => h) (Or.inl ⟨by rfl, ?_⟩) (by assumption) ?_
          rotate_left
          · intro w hSw
            (try dsimp only at hSw)
            go_simp
            all_goals (try with_reducible rfl)
          refine wpAnyH_done (by kernel_rfl) ?_ _
          dsimp only
          simp only [Act.put, List.setIfInBounds_toArray, List.set_cons_zero, List.set_cons_succ]
          obtain ⟨W9, hW9⟩ : ∃ W, W = (wc.alloc (.cells #[.string ⟨#[]⟩, .string ⟨#[]⟩, .int .i64 0, .int .i64 0, .int .i64 0, .int .i64 0, .int .i64 0, .int .i64 0, .slice none 0 0, .slice none 0 0, .slice none 0 0, .int .i64 0, .int .i64 0] 31)).setCells wc.heap.size 0 [.string p.name, .string p.cur, .int .i64 p.a.y, .int .i64 p.a.m, .int .i64 p.a.d, .int .i64 p.b.y, .int .i64 p.b.m, .int .i64 p.b.d, .slice ma p.meters.length mc, .slice fa p.fees.length fc, .slice ca p.charges.length cc, .int .i64 p.line, .int .i64 p.col] := ⟨_, rfl⟩
          have BZ : Below w5.heap.size w5 ((wc.alloc (.cells #[.string ⟨#[]⟩, .string ⟨#[]⟩, .int .i64 0, .int .i64 0, .int .i64 0, .int .i64 0, .int .i64 0, .int .i64 0, .slice none 0 0, .slice none 0 0, .slice none 0 0, .int .i64 0, .int .i64 0] 31)).setCells wc.heap.size 0 [.string p.name, .string p.cur, .int .i64 p.a.y, .int .i64 p.a.m, .int .i64 p.a.d, .int .i64 p.b.y, .int .i64 p.b.m, .int .i64 p.b.d, .slice ma p.meters.length mc, .slice fa p.fees.length fc, .slice ca p.charges.length cc, .int .i64 p.line, .int .i64 p.col]) := BZ
          have LZ : PlanLies ((wc.alloc (.cells #[.string ⟨#[]⟩, .string ⟨#[]⟩, .int .i64 0, .int .i64 0, .int .i64 0, .int .i64 0, .int .i64 0, .int .i64 0, .slice none 0 0, .slice none 0 0, .slice none 0 0, .int .i64 0, .int .i64 0] 31)).setCells wc.heap.size 0 [.string p.name, .string p.cur, .int .i64 p.a.y, .int .i64 p.a.m, .int .i64 p.a.d, .int .i64 p.b.y, .int .i64 p.b.m, .int .i64 p.b.d, .slice ma p.meters.length mc, .slice fa p.fees.length fc, .slice ca p.charges.length cc, .int .i64 p.line, .int .i64 p.col]) [.string p.name, .string p.cur, .int .i64 p.a.y, .int .i64 p.a.m, .int .i64 p.a.d, .int .i64 p.b.y, .int .i64 p.b.m, .int .i64 p.b.d, .slice ma p.meters.length mc, .slice fa p.fees.length fc, .slice ca p.charges.length cc, .int .i64 p.line, .int .i64 p.col] p ma mc fa fc ca cc := LZ
          have RZ : ((wc.alloc (.cells #[.string ⟨#[]⟩, .string ⟨#[]⟩, .int .i64 0, .int .i64 0, .int .i64 0, .int .i64 0, .int .i64 0, .int .i64 0, .slice none 0 0, .slice none 0 0, .slice none 0 0, .int .i64 0, .int .i64 0] 31)).setCells wc.heap.size 0 [.string p.name, .string p.cur, .int .i64 p.a.y, .int .i64 p.a.m, .int .i64 p.a.d, .int .i64 p.b.y, .int .i64 p.b.m, .int .i64 p.b.d, .slice ma p.meters.length mc, .slice fa p.fees.length fc, .slice ca p.charges.length cc, .int .i64 p.line, .int .i64 p.col]).rangeAt wc.heap.size 0 [.string p.name, .string p.cur, .int .i64 p.a.y, .int .i64 p.a.m, .int .i64 p.a.d, .int .i64 p.b.y, .int .i64 p.b.m, .int .i64 p.b.d, .slice ma p.meters.length mc, .slice fa p.fees.length fc, .slice ca p.charges.length cc, .int .i64 p.line, .int .i64 p.col] := RZ
          rw [← hW9] at BZ LZ RZ ⊢
          clear hW9
          have HBZ := hid BZ
          have HRZ := hid RZ
          have cQ1 := cQ.out _ ma mc fa fc ca cc LZ
          clear BZ RZ LZ cQ lp lpf KS HP cF cT1 cT2
          by_cases hba : b < a
          · rw [if_pos hba] at cQ1
            have cQ2 := hid cQ1
            clear cQ1
            go_wp2_with (first | (with_reducible refine wpList_load_mid (op := Oper.mk (some 52) (Op.load 31 (Operand.tmp 9)) _ _ _ _) ?_ 31 (.tmp 9) ?_ wc.heap.size 0 ?_ [.string p.name, .string p.cur, .int .i64 p.a.y, .int .i64 p.a.m, .int .i64 p.a.d, .int .i64 p.b.y, .int .i64 p.b.m, .int .i64 p.b.d, .slice ma p.meters.length mc, .slice fa p.fees.length fc, .slice ca p.charges.length cc, .int .i64 p.line, .int .i64 p.col] _ HRZ.out Try.underlying31 ?_ ?_ ?_; rfl; rfl; go_simp; rfl; kernel_rfl) | fail)
            refine cQ2.out.mono ?_
            rintro e w9 ⟨rfl, b9⟩
            have BF := hid (bel_on (bel_on B5.out HBZ.out) b9)
            clear b9 cQ2
            go_wp2
            go_ret
            exact ⟨rfl, bel_on BF.out (bel_alloc _ _)⟩
          rw [if_neg hba] at cQ1
          by_cases hbb : 3999 < b - a
          · rw [if_pos hbb] at cQ1
            have cQ2 := hid cQ1
            clear cQ1
            go_wp2_with (first | (with_reducible refine wpList_load_mid (op := Oper.mk (some 52) (Op.load 31 (Operand.tmp 9)) _ _ _ _) ?_ 31 (.tmp 9) ?_ wc.heap.size 0 ?_ [.string p.name, .string p.cur, .int .i64 p.a.y, .int .i64 p.a.m, .int .i64 p.a.d, .int .i64 p.b.y, .int .i64 p.b.m, .int .i64 p.b.d, .slice ma p.meters.length mc, .slice fa p.fees.length fc, .slice ca p.charges.length cc, .int .i64 p.line, .int .i64 p.col] _ HRZ.out Try.underlying31 ?_ ?_ ?_; rfl; rfl; go_simp; rfl; kernel_rfl) | fail)
            refine cQ2.out.mono ?_
            rintro e w9 ⟨rfl, b9⟩
            have BF := hid (bel_on (bel_on B5.out HBZ.out) b9)
            clear b9 cQ2
            go_wp2
            go_ret
            exact ⟨rfl, bel_on BF.out (bel_alloc _ _)⟩
          rw [if_neg hbb] at cQ1
          have cQ2 := hid cQ1
          clear cQ1
          go_wp2_with (first | (with_reducible refine wpList_load_mid (op := Oper.mk (some 52) (Op.load 31 (Operand.tmp 9)) _ _ _ _) ?_ 31 (.tmp 9) ?_ wc.heap.size 0 ?_ [.string p.name, .string p.cur, .int .i64 p.a.y, .int .i64 p.a.m, .int .i64 p.a.d, .int .i64 p.b.y, .int .i64 p.b.m, .int .i64 p.b.d, .slice ma p.meters.length mc, .slice fa p.fees.length fc, .slice ca p.charges.length cc, .int .i64 p.line, .int .i64 p.col] _ HRZ.out Try.underlying31 ?_ ?_ ?_; rfl; rfl; go_simp; rfl; kernel_rfl) | fail)
          refine cQ2.out.mono ?_
          rintro e w9 ⟨rfl, b9⟩
          have BF := hid (bel_on (bel_on B5.out HBZ.out) b9)
          clear b9 cQ2
          go_wp2
          go_ret
          exact ⟨rfl, bel_on BF.out (bel_alloc _ _)⟩
        exact AllReadyH.nil
      refine AllReadyH.cons (o := (Oper.mk (some 9) (Op.alloc 31) _ _ _ _)) rfl (fun K hK => ?_) ?_
      · go_simp
        have B105 := al_on B102 (.cells ([.string ⟨#[]⟩, .string ⟨#[]⟩, .int .i64 0, .int .i64 0, .int .i64 0, .int .i64 0, .int .i64 0, .int .i64 0, .slice none 0 0, .slice none 0 0, .slice none 0 0, .int .i64 0, .int .i64 0] : List Value).toArray 31)
        have G105 := B102.size
        have T105 := there_new wb [.string ⟨#[]⟩, .string ⟨#[]⟩, .int .i64 0, .int .i64 0, .int .i64 0, .int .i64 0, .int .i64 0, .int .i64 0, .slice none 0 0, .slice none 0 0, .slice none 0 0, .int .i64 0, .int .i64 0] 31 (n := 13) rfl
        have L105 : wb.heap.size < (wb.alloc (.cells ([.string ⟨#[]⟩, .string ⟨#[]⟩, .int .i64 0, .int .i64 0, .int .i64 0, .int .i64 0, .int .i64 0, .int .i64 0, .slice none 0 0, .slice none 0 0, .slice none 0 0, .int .i64 0, .int .i64 0] : List Value).toArray 31)).heap.size := by simp
        refine hK.out _ _ ?_ (fun hHeld => ?_)
        · exact KS.out _ B105
        clear hK K
        try simp only [Act.put, List.setIfInBounds_toArray, List.set_cons_zero, List.set_cons_succ]
        refine wpAnyH_ready (rs := [8]) (by kernel_rfl) (by simp) ?_
        refine AllReadyH.cons (o := (Oper.mk (some 47) (Op.call _) _ _ _ _)) rfl (fun K hK => ?_) ?_
        · go_simp
          (go_at_call 6; refine (cF.out _).mono ?_; rintro e wc ⟨ma, mc, fa, fc, ca, cc, rfl, lp, bc, lpf⟩)
          have B106 := bel_on B105 bc
          have T106 := there_on T105 L105 bc
          have L106 := Nat.lt_of_lt_of_le L105 bc.size
          refine hK.out _ _ ?_ (fun hHeld => ?_)
          · exact KS.out _ B106
          clear hK K
          try simp only [Act.put, List.setIfInBounds_toArray, List.set_cons_zero, List.set_cons_succ]
          refine wpAnyH_take (i := 9) (oi := (Oper.mk (some 38) (Op.move _) _ _ _ _)) (v := ?_) rfl (by kernel_rfl) (by kernel_rfl) (by kernel_rfl) (fun _ _ _ h => h) (Or.inl ⟨by rfl, ?_⟩) (by assumption) ?_
          rotate_left
          · intro w hSw
            (try dsimp only at hSw)
            go_simp
            all_goals (try with_reducible rfl)
          try simp only [Act.put, List.setIfInBounds_toArray, List.set_cons_zero, List.set_cons_succ]
          refine wpAnyH_take (i := 10) (oi := (Oper.mk (some 48) (Op.extract _ _) _ _ _ _)) (v := ?_) rfl (by kernel_rfl) (by kernel_rfl) (by kernel_rfl) (fun _ _ _ h => h) (Or.inl ⟨by rfl, ?_⟩) (by assumption) ?_
          rotate_left
          · intro w hSw
            (try dsimp only at hSw)
            go_simp
            all_goals (try with_reducible rfl)
          try simp only [Act.put, List.setIfInBounds_toArray, List.set_cons_zero, List.set_cons_succ]
          refine wpAnyH_take (i := 11) (oi := (Oper.mk (some 49) (Op.extract _ _) _ _ _ _)) (v := ?_) rfl (by kernel_rfl) (by kernel_rfl) (by kernel_rfl) (fun _ _ _ h => h) (Or.inl ⟨by rfl, ?_⟩) (by assumption) ?_
          rotate_left
          · intro w hSw
            (try dsimp only at hSw)
            go_simp
            all_goals (try with_reducible rfl)
          try simp only [Act.put, List.setIfInBounds_toArray, List.set_cons_zero, List.set_cons_succ]
          refine wpAnyH_ready (rs := [13]) (by kernel_rfl) (by simp) ?_
          refine AllReadyH.cons (o := (Oper.mk none (Op.store 31 (Operand.tmp 9) (Operand.tmp 48)) _ _ _ _)) rfl (fun K hK => ?_) AllReadyH.nil
          rw [if_pos (by rfl)]
          refine wp_store_mid 31 (.tmp 9) (.tmp 48) rfl _ 0 #[.string p.name, .string p.cur, .int .i64 p.a.y, .int .i64 p.a.m, .int .i64 p.a.d, .int .i64 p.b.y, .int .i64 p.b.m, .int .i64 p.b.d, .slice ma p.meters.length mc, .slice fa p.fees.length fc, .slice ca p.charges.length cc, .int .i64 p.line, .int .i64 p.col] rfl rfl T106 (by kernel_rfl) (by simp [Value.oneCell']) ?_
          have BZ := below_setCells G105 [.string p.name, .string p.cur, .int .i64 p.a.y, .int .i64 p.a.m, .int .i64 p.a.d, .int .i64 p.b.y, .int .i64 p.b.m, .int .i64 p.b.d, .slice ma p.meters.length mc, .slice fa p.fees.length fc, .slice ca p.charges.length cc, .int .i64 p.line, .int .i64 p.col] 0 _ B106
          have LZ := lpf _ L105 0 [.string p.name, .string p.cur, .int .i64 p.a.y, .int .i64 p.a.m, .int .i64 p.a.d, .int .i64 p.b.y, .int .i64 p.b.m, .int .i64 p.b.d, .slice ma p.meters.length mc, .slice fa p.fees.length fc, .slice ca p.charges.length cc, .int .i64 p.line, .int .i64 p.col]
          have RZ := World.rangeAt_setCells_same _ _ _ [.string p.name, .string p.cur, .int .i64 p.a.y, .int .i64 p.a.m, .int .i64 p.a.d, .int .i64 p.b.y, .int .i64 p.b.m, .int .i64 p.b.d, .slice ma p.meters.length mc, .slice fa p.fees.length fc, .slice ca p.charges.length cc, .int .i64 p.line, .int .i64 p.col] T106
          refine hK.out _ _ ?_ (fun hHeld => ?_)
          · exact KS.out _ BZ
          clear hK K
          refine wpAnyH_take (i := 14) (oi := (Oper.mk (some 10) (Op.assign _) _ _ _ _)) (v := ?_) rfl (by kernel_rfl) (by kernel_rfl) (by kernel_rfl) (fun _ _ _ h => h) (Or.inl ⟨by rfl, ?_⟩) (by assumption) ?_
          rotate_left
          · intro w hSw
            (try dsimp only at hSw)
            go_simp
            all_goals (try with_reducible rfl)
          refine wpAnyH_done (by kernel_rfl) ?_ _
          dsimp only
          simp only [Act.put, List.setIfInBounds_toArray, List.set_cons_zero, List.set_cons_succ]
          obtain ⟨W9, hW9⟩ : ∃ W, W = wc.setCells wb.heap.size 0 [.string p.name, .string p.cur, .int .i64 p.a.y, .int .i64 p.a.m, .int .i64 p.a.d, .int .i64 p.b.y, .int .i64 p.b.m, .int .i64 p.b.d, .slice ma p.meters.length mc, .slice fa p.fees.length fc, .slice ca p.charges.length cc, .int .i64 p.line, .int .i64 p.col] := ⟨_, rfl⟩
          have BZ : Below w5.heap.size w5 (wc.setCells wb.heap.size 0 [.string p.name, .string p.cur, .int .i64 p.a.y, .int .i64 p.a.m, .int .i64 p.a.d, .int .i64 p.b.y, .int .i64 p.b.m, .int .i64 p.b.d, .slice ma p.meters.length mc, .slice fa p.fees.length fc, .slice ca p.charges.length cc, .int .i64 p.line, .int .i64 p.col]) := BZ
          have LZ : PlanLies (wc.setCells wb.heap.size 0 [.string p.name, .string p.cur, .int .i64 p.a.y, .int .i64 p.a.m, .int .i64 p.a.d, .int .i64 p.b.y, .int .i64 p.b.m, .int .i64 p.b.d, .slice ma p.meters.length mc, .slice fa p.fees.length fc, .slice ca p.charges.length cc, .int .i64 p.line, .int .i64 p.col]) [.string p.name, .string p.cur, .int .i64 p.a.y, .int .i64 p.a.m, .int .i64 p.a.d, .int .i64 p.b.y, .int .i64 p.b.m, .int .i64 p.b.d, .slice ma p.meters.length mc, .slice fa p.fees.length fc, .slice ca p.charges.length cc, .int .i64 p.line, .int .i64 p.col] p ma mc fa fc ca cc := LZ
          have RZ : (wc.setCells wb.heap.size 0 [.string p.name, .string p.cur, .int .i64 p.a.y, .int .i64 p.a.m, .int .i64 p.a.d, .int .i64 p.b.y, .int .i64 p.b.m, .int .i64 p.b.d, .slice ma p.meters.length mc, .slice fa p.fees.length fc, .slice ca p.charges.length cc, .int .i64 p.line, .int .i64 p.col]).rangeAt wb.heap.size 0 [.string p.name, .string p.cur, .int .i64 p.a.y, .int .i64 p.a.m, .int .i64 p.a.d, .int .i64 p.b.y, .int .i64 p.b.m, .int .i64 p.b.d, .slice ma p.meters.length mc, .slice fa p.fees.length fc, .slice ca p.charges.length cc, .int .i64 p.line, .int .i64 p.col] := RZ
          rw [← hW9] at BZ LZ RZ ⊢
          clear hW9
          have HBZ := hid BZ
          have HRZ := hid RZ
          have cQ1 := cQ.out _ ma mc fa fc ca cc LZ
          clear BZ RZ LZ cQ lp lpf KS HP cF cT1 cT2
          by_cases hba : b < a
          · rw [if_pos hba] at cQ1
            have cQ2 := hid cQ1
            clear cQ1
            go_wp2_with (first | (with_reducible refine wpList_load_mid (op := Oper.mk (some 52) (Op.load 31 (Operand.tmp 9)) _ _ _ _) ?_ 31 (.tmp 9) ?_ wb.heap.size 0 ?_ [.string p.name, .string p.cur, .int .i64 p.a.y, .int .i64 p.a.m, .int .i64 p.a.d, .int .i64 p.b.y, .int .i64 p.b.m, .int .i64 p.b.d, .slice ma p.meters.length mc, .slice fa p.fees.length fc, .slice ca p.charges.length cc, .int .i64 p.line, .int .i64 p.col] _ HRZ.out Try.underlying31 ?_ ?_ ?_; rfl; rfl; go_simp; rfl; kernel_rfl) | fail)
            refine cQ2.out.mono ?_
            rintro e w9 ⟨rfl, b9⟩
            have BF := hid (bel_on (bel_on B5.out HBZ.out) b9)
            clear b9 cQ2
            go_wp2
            go_ret
            exact ⟨rfl, bel_on BF.out (bel_alloc _ _)⟩
          rw [if_neg hba] at cQ1
          by_cases hbb : 3999 < b - a
          · rw [if_pos hbb] at cQ1
            have cQ2 := hid cQ1
            clear cQ1
            go_wp2_with (first | (with_reducible refine wpList_load_mid (op := Oper.mk (some 52) (Op.load 31 (Operand.tmp 9)) _ _ _ _) ?_ 31 (.tmp 9) ?_ wb.heap.size 0 ?_ [.string p.name, .string p.cur, .int .i64 p.a.y, .int .i64 p.a.m, .int .i64 p.a.d, .int .i64 p.b.y, .int .i64 p.b.m, .int .i64 p.b.d, .slice ma p.meters.length mc, .slice fa p.fees.length fc, .slice ca p.charges.length cc, .int .i64 p.line, .int .i64 p.col] _ HRZ.out Try.underlying31 ?_ ?_ ?_; rfl; rfl; go_simp; rfl; kernel_rfl) | fail)
            refine cQ2.out.mono ?_
            rintro e w9 ⟨rfl, b9⟩
            have BF := hid (bel_on (bel_on B5.out HBZ.out) b9)
            clear b9 cQ2
            go_wp2
            go_ret
            exact ⟨rfl, bel_on BF.out (bel_alloc _ _)⟩
          rw [if_neg hbb] at cQ1
          have cQ2 := hid cQ1
          clear cQ1
          go_wp2_with (first | (with_reducible refine wpList_load_mid (op := Oper.mk (some 52) (Op.load 31 (Operand.tmp 9)) _ _ _ _) ?_ 31 (.tmp 9) ?_ wb.heap.size 0 ?_ [.string p.name, .string p.cur, .int .i64 p.a.y, .int .i64 p.a.m, .int .i64 p.a.d, .int .i64 p.b.y, .int .i64 p.b.m, .int .i64 p.b.d, .slice ma p.meters.length mc, .slice fa p.fees.length fc, .slice ca p.charges.length cc, .int .i64 p.line, .int .i64 p.col] _ HRZ.out Try.underlying31 ?_ ?_ ?_; rfl; rfl; go_simp; rfl; kernel_rfl) | fail)
          refine cQ2.out.mono ?_
          rintro e w9 ⟨rfl, b9⟩
          have BF := hid (bel_on (bel_on B5.out HBZ.out) b9)
          clear b9 cQ2
          go_wp2
          go_ret
          exact ⟨rfl, bel_on BF.out (bel_alloc _ _)⟩
        exact AllReadyH.nil
      exact AllReadyH.nil
    refine AllReadyH.cons (o := (Oper.mk (some 9) (Op.alloc 31) _ _ _ _)) rfl (fun K hK => ?_) ?_
    · go_simp
      have B107 := al_on B101 (.cells ([.string ⟨#[]⟩, .string ⟨#[]⟩, .int .i64 0, .int .i64 0, .int .i64 0, .int .i64 0, .int .i64 0, .int .i64 0, .slice none 0 0, .slice none 0 0, .slice none 0 0, .int .i64 0, .int .i64 0] : List Value).toArray 31)
      have G107 := B101.size
      have T107 := there_new wa [.string ⟨#[]⟩, .string ⟨#[]⟩, .int .i64 0, .int .i64 0, .int .i64 0, .int .i64 0, .int .i64 0, .int .i64 0, .slice none 0 0, .slice none 0 0, .slice none 0 0, .int .i64 0, .int .i64 0] 31 (n := 13) rfl
      have L107 : wa.heap.size < (wa.alloc (.cells ([.string ⟨#[]⟩, .string ⟨#[]⟩, .int .i64 0, .int .i64 0, .int .i64 0, .int .i64 0, .int .i64 0, .int .i64 0, .slice none 0 0, .slice none 0 0, .slice none 0 0, .int .i64 0, .int .i64 0] : List Value).toArray 31)).heap.size := by simp
      refine hK.out _ _ ?_ (fun hHeld => ?_)
      · exact KS.out _ B107
      clear hK K
      try simp only [Act.put, List.setIfInBounds_toArray, List.set_cons_zero, List.set_cons_succ]
      refine wpAnyH_ready (rs := [5]) (by kernel_rfl) (by simp) ?_
      refine AllReadyH.cons (o := (Oper.mk (some 44) (Op.call _) _ _ _ _)) rfl (fun K hK => ?_) ?_
      · go_simp
        (go_at_call 7; refine (cT2.out _).mono ?_; rintro e wb ⟨rfl, bb⟩)
        have B108 := bel_on B107 bb
        have T108 := there_on T107 L107 bb
        have L108 := Nat.lt_of_lt_of_le L107 bb.size
        refine hK.out _ _ ?_ (fun hHeld => ?_)
        · exact KS.out _ B108
        clear hK K
        try simp only [Act.put, List.setIfInBounds_toArray, List.set_cons_zero, List.set_cons_succ]
        refine wpAnyH_take (i := 6) (oi := (Oper.mk (some 45) (Op.binOp _ _ _ _ _) _ _ _ _)) (v := ?_) rfl (by kernel_rfl) (by kernel_rfl) (by kernel_rfl) (fun _ _ _ h => h) (Or.inl ⟨by rfl, ?_⟩) (by assumption) ?_
        rotate_left
        · intro w hSw
          (try dsimp only at hSw)
          go_simp
          all_goals (try with_reducible rfl)
        try simp only [Act.put, List.setIfInBounds_toArray, List.set_cons_zero, List.set_cons_succ]
        refine wpAnyH_take (i := 7) (oi := (Oper.mk (some 46) (Op.binOp _ _ _ _ _) _ _ _ _)) (v := ?_) rfl (by kernel_rfl) (by kernel_rfl) (by kernel_rfl) (fun _ _ _ h => h) (Or.inl ⟨by rfl, ?_⟩) (by assumption) ?_
        rotate_left
        · intro w hSw
          (try dsimp only at hSw)
          go_simp
          all_goals (try with_reducible rfl)
        try simp only [Act.put, List.setIfInBounds_toArray, List.set_cons_zero, List.set_cons_succ]
        refine wpAnyH_ready (rs := [8]) (by kernel_rfl) (by simp) ?_
        refine AllReadyH.cons (o := (Oper.mk (some 47) (Op.call _) _ _ _ _)) rfl (fun K hK => ?_) ?_
        · go_simp
          (go_at_call 6; refine (cF.out _).mono ?_; rintro e wc ⟨ma, mc, fa, fc, ca, cc, rfl, lp, bc, lpf⟩)
          have B109 := bel_on B108 bc
          have T109 := there_on T108 L108 bc
          have L109 := Nat.lt_of_lt_of_le L108 bc.size
          refine hK.out _ _ ?_ (fun hHeld => ?_)
          · exact KS.out _ B109
          clear hK K
          try simp only [Act.put, List.setIfInBounds_toArray, List.set_cons_zero, List.set_cons_succ]
          refine wpAnyH_take (i := 9) (oi := (Oper.mk (some 38) (Op.move _) _ _ _ _)) (v := ?_) rfl (by kernel_rfl) (by kernel_rfl) (by kernel_rfl) (fun _ _ _ h => h) (Or.inl ⟨by rfl, ?_⟩) (by assumption) ?_
          rotate_left
          · intro w hSw
            (try dsimp only at hSw)
            go_simp
            all_goals (try with_reducible rfl)
          try simp only [Act.put, List.setIfInBounds_toArray, List.set_cons_zero, List.set_cons_succ]
          refine wpAnyH_take (i := 10) (oi := (Oper.mk (some 48) (Op.extract _ _) _ _ _ _)) (v := ?_) rfl (by kernel_rfl) (by kernel_rfl) (by kernel_rfl) (fun _ _ _ h => h) (Or.inl ⟨by rfl, ?_⟩) (by assumption) ?_
          rotate_left
          · intro w hSw
            (try dsimp only at hSw)
            go_simp
            all_goals (try with_reducible rfl)
          try simp only [Act.put, List.setIfInBounds_toArray, List.set_cons_zero, List.set_cons_succ]
          refine wpAnyH_take (i := 11) (oi := (Oper.mk (some 49) (Op.extract _ _) _ _ _ _)) (v := ?_) rfl (by kernel_rfl) (by kernel_rfl) (by kernel_rfl) (fun _ _ _ h => h) (Or.inl ⟨by rfl, ?_⟩) (by assumption) ?_
          rotate_left
          · intro w hSw
            (try dsimp only at hSw)
            go_simp
            all_goals (try with_reducible rfl)
          try simp only [Act.put, List.setIfInBounds_toArray, List.set_cons_zero, List.set_cons_succ]
          refine wpAnyH_ready (rs := [13]) (by kernel_rfl) (by simp) ?_
          refine AllReadyH.cons (o := (Oper.mk none (Op.store 31 (Operand.tmp 9) (Operand.tmp 48)) _ _ _ _)) rfl (fun K hK => ?_) AllReadyH.nil
          rw [if_pos (by rfl)]
          refine wp_store_mid 31 (.tmp 9) (.tmp 48) rfl _ 0 #[.string p.name, .string p.cur, .int .i64 p.a.y, .int .i64 p.a.m, .int .i64 p.a.d, .int .i64 p.b.y, .int .i64 p.b.m, .int .i64 p.b.d, .slice ma p.meters.length mc, .slice fa p.fees.length fc, .slice ca p.charges.length cc, .int .i64 p.line, .int .i64 p.col] rfl rfl T109 (by kernel_rfl) (by simp [Value.oneCell']) ?_
          have BZ := below_setCells G107 [.string p.name, .string p.cur, .int .i64 p.a.y, .int .i64 p.a.m, .int .i64 p.a.d, .int .i64 p.b.y, .int .i64 p.b.m, .int .i64 p.b.d, .slice ma p.meters.length mc, .slice fa p.fees.length fc, .slice ca p.charges.length cc, .int .i64 p.line, .int .i64 p.col] 0 _ B109
          have LZ := lpf _ L108 0 [.string p.name, .string p.cur, .int .i64 p.a.y, .int .i64 p.a.m, .int .i64 p.a.d, .int .i64 p.b.y, .int .i64 p.b.m, .int .i64 p.b.d, .slice ma p.meters.length mc, .slice fa p.fees.length fc, .slice ca p.charges.length cc, .int .i64 p.line, .int .i64 p.col]
          have RZ := World.rangeAt_setCells_same _ _ _ [.string p.name, .string p.cur, .int .i64 p.a.y, .int .i64 p.a.m, .int .i64 p.a.d, .int .i64 p.b.y, .int .i64 p.b.m, .int .i64 p.b.d, .slice ma p.meters.length mc, .slice fa p.fees.length fc, .slice ca p.charges.length cc, .int .i64 p.line, .int .i64 p.col] T109
          refine hK.out _ _ ?_ (fun hHeld => ?_)
          · exact KS.out _ BZ
          clear hK K
          refine wpAnyH_take (i := 14) (oi := (Oper.mk (some 10) (Op.assign _) _ _ _ _)) (v := ?_) rfl (by kernel_rfl) (by kernel_rfl) (by kernel_rfl) (fun _ _ _ h => h) (Or.inl ⟨by rfl, ?_⟩) (by assumption) ?_
          rotate_left
          · intro w hSw
            (try dsimp only at hSw)
            go_simp
            all_goals (try with_reducible rfl)
          refine wpAnyH_done (by kernel_rfl) ?_ _
          dsimp only
          simp only [Act.put, List.setIfInBounds_toArray, List.set_cons_zero, List.set_cons_succ]
          obtain ⟨W9, hW9⟩ : ∃ W, W = wc.setCells wa.heap.size 0 [.string p.name, .string p.cur, .int .i64 p.a.y, .int .i64 p.a.m, .int .i64 p.a.d, .int .i64 p.b.y, .int .i64 p.b.m, .int .i64 p.b.d, .slice ma p.meters.length mc, .slice fa p.fees.length fc, .slice ca p.charges.length cc, .int .i64 p.line, .int .i64 p.col] := ⟨_, rfl⟩
          have BZ : Below w5.heap.size w5 (wc.setCells wa.heap.size 0 [.string p.name, .string p.cur, .int .i64 p.a.y, .int .i64 p.a.m, .int .i64 p.a.d, .int .i64 p.b.y, .int .i64 p.b.m, .int .i64 p.b.d, .slice ma p.meters.length mc, .slice fa p.fees.length fc, .slice ca p.charges.length cc, .int .i64 p.line, .int .i64 p.col]) := BZ
          have LZ : PlanLies (wc.setCells wa.heap.size 0 [.string p.name, .string p.cur, .int .i64 p.a.y, .int .i64 p.a.m, .int .i64 p.a.d, .int .i64 p.b.y, .int .i64 p.b.m, .int .i64 p.b.d, .slice ma p.meters.length mc, .slice fa p.fees.length fc, .slice ca p.charges.length cc, .int .i64 p.line, .int .i64 p.col]) [.string p.name, .string p.cur, .int .i64 p.a.y, .int .i64 p.a.m, .int .i64 p.a.d, .int .i64 p.b.y, .int .i64 p.b.m, .int .i64 p.b.d, .slice ma p.meters.length mc, .slice fa p.fees.length fc, .slice ca p.charges.length cc, .int .i64 p.line, .int .i64 p.col] p ma mc fa fc ca cc := LZ
          have RZ : (wc.setCells wa.heap.size 0 [.string p.name, .string p.cur, .int .i64 p.a.y, .int .i64 p.a.m, .int .i64 p.a.d, .int .i64 p.b.y, .int .i64 p.b.m, .int .i64 p.b.d, .slice ma p.meters.length mc, .slice fa p.fees.length fc, .slice ca p.charges.length cc, .int .i64 p.line, .int .i64 p.col]).rangeAt wa.heap.size 0 [.string p.name, .string p.cur, .int .i64 p.a.y, .int .i64 p.a.m, .int .i64 p.a.d, .int .i64 p.b.y, .int .i64 p.b.m, .int .i64 p.b.d, .slice ma p.meters.length mc, .slice fa p.fees.length fc, .slice ca p.charges.length cc, .int .i64 p.line, .int .i64 p.col] := RZ
          rw [← hW9] at BZ LZ RZ ⊢
          clear hW9
          have HBZ := hid BZ
          have HRZ := hid RZ
          have cQ1 := cQ.out _ ma mc fa fc ca cc LZ
          clear BZ RZ LZ cQ lp lpf KS HP cF cT1 cT2
          by_cases hba : b < a
          · rw [if_pos hba] at cQ1
            have cQ2 := hid cQ1
            clear cQ1
            go_wp2_with (first | (with_reducible refine wpList_load_mid (op := Oper.mk (some 52) (Op.load 31 (Operand.tmp 9)) _ _ _ _) ?_ 31 (.tmp 9) ?_ wa.heap.size 0 ?_ [.string p.name, .string p.cur, .int .i64 p.a.y, .int .i64 p.a.m, .int .i64 p.a.d, .int .i64 p.b.y, .int .i64 p.b.m, .int .i64 p.b.d, .slice ma p.meters.length mc, .slice fa p.fees.length fc, .slice ca p.charges.length cc, .int .i64 p.line, .int .i64 p.col] _ HRZ.out Try.underlying31 ?_ ?_ ?_; rfl; rfl; go_simp; rfl; kernel_rfl) | fail)
            refine cQ2.out.mono ?_
            rintro e w9 ⟨rfl, b9⟩
            have BF := hid (bel_on (bel_on B5.out HBZ.out) b9)
            clear b9 cQ2
            go_wp2
            go_ret
            exact ⟨rfl, bel_on BF.out (bel_alloc _ _)⟩
          rw [if_neg hba] at cQ1
          by_cases hbb : 3999 < b - a
          · rw [if_pos hbb] at cQ1
            have cQ2 := hid cQ1
            clear cQ1
            go_wp2_with (first | (with_reducible refine wpList_load_mid (op := Oper.mk (some 52) (Op.load 31 (Operand.tmp 9)) _ _ _ _) ?_ 31 (.tmp 9) ?_ wa.heap.size 0 ?_ [.string p.name, .string p.cur, .int .i64 p.a.y, .int .i64 p.a.m, .int .i64 p.a.d, .int .i64 p.b.y, .int .i64 p.b.m, .int .i64 p.b.d, .slice ma p.meters.length mc, .slice fa p.fees.length fc, .slice ca p.charges.length cc, .int .i64 p.line, .int .i64 p.col] _ HRZ.out Try.underlying31 ?_ ?_ ?_; rfl; rfl; go_simp; rfl; kernel_rfl) | fail)
            refine cQ2.out.mono ?_
            rintro e w9 ⟨rfl, b9⟩
            have BF := hid (bel_on (bel_on B5.out HBZ.out) b9)
            clear b9 cQ2
            go_wp2
            go_ret
            exact ⟨rfl, bel_on BF.out (bel_alloc _ _)⟩
          rw [if_neg hbb] at cQ1
          have cQ2 := hid cQ1
          clear cQ1
          go_wp2_with (first | (with_reducible refine wpList_load_mid (op := Oper.mk (some 52) (Op.load 31 (Operand.tmp 9)) _ _ _ _) ?_ 31 (.tmp 9) ?_ wa.heap.size 0 ?_ [.string p.name, .string p.cur, .int .i64 p.a.y, .int .i64 p.a.m, .int .i64 p.a.d, .int .i64 p.b.y, .int .i64 p.b.m, .int .i64 p.b.d, .slice ma p.meters.length mc, .slice fa p.fees.length fc, .slice ca p.charges.length cc, .int .i64 p.line, .int .i64 p.col] _ HRZ.out Try.underlying31 ?_ ?_ ?_; rfl; rfl; go_simp; rfl; kernel_rfl) | fail)
          refine cQ2.out.mono ?_
          rintro e w9 ⟨rfl, b9⟩
          have BF := hid (bel_on (bel_on B5.out HBZ.out) b9)
          clear b9 cQ2
          go_wp2
          go_ret
          exact ⟨rfl, bel_on BF.out (bel_alloc _ _)⟩
        exact AllReadyH.nil
      exact AllReadyH.nil
    exact AllReadyH.nil
  refine AllReadyH.cons (o := (Oper.mk (some 9) (Op.alloc 31) _ _ _ _)) rfl (fun K hK => ?_) ?_
  · go_simp
    have B110 := al_on B100 (.cells ([.string ⟨#[]⟩, .string ⟨#[]⟩, .int .i64 0, .int .i64 0, .int .i64 0, .int .i64 0, .int .i64 0, .int .i64 0, .slice none 0 0, .slice none 0 0, .slice none 0 0, .int .i64 0, .int .i64 0] : List Value).toArray 31)
    have G110 := B100.size
    have T110 := there_new w5.drew [.string ⟨#[]⟩, .string ⟨#[]⟩, .int .i64 0, .int .i64 0, .int .i64 0, .int .i64 0, .int .i64 0, .int .i64 0, .slice none 0 0, .slice none 0 0, .slice none 0 0, .int .i64 0, .int .i64 0] 31 (n := 13) rfl
    have L110 : w5.drew.heap.size < (w5.drew.alloc (.cells ([.string ⟨#[]⟩, .string ⟨#[]⟩, .int .i64 0, .int .i64 0, .int .i64 0, .int .i64 0, .int .i64 0, .int .i64 0, .slice none 0 0, .slice none 0 0, .slice none 0 0, .int .i64 0, .int .i64 0] : List Value).toArray 31)).heap.size := by simp
    refine hK.out _ _ ?_ (fun hHeld => ?_)
    · exact KS.out _ B110
    clear hK K
    try simp only [Act.put, List.setIfInBounds_toArray, List.set_cons_zero, List.set_cons_succ]
    refine wpAnyH_ready (rs := [1]) (by kernel_rfl) (by simp) ?_
    refine AllReadyH.cons (o := (Oper.mk (some 40) (Op.call _) _ _ _ _)) rfl (fun K hK => ?_) ?_
    · go_simp
      (go_at_call_of 7 (Value.agg #[.int .i64 A.y, .int .i64 A.m, .int .i64 A.d]); refine (cT1.out _).mono ?_; rintro e wa ⟨rfl, ba⟩)
      have B111 := bel_on B110 ba
      have T111 := there_on T110 L110 ba
      have L111 := Nat.lt_of_lt_of_le L110 ba.size
      refine hK.out _ _ ?_ (fun hHeld => ?_)
      · exact KS.out _ B111
      clear hK K
      try simp only [Act.put, List.setIfInBounds_toArray, List.set_cons_zero, List.set_cons_succ]
      refine wpAnyH_take (i := 2) (oi := (Oper.mk (some 41) (Op.binOp _ _ _ _ _) _ _ _ _)) (v := ?_) rfl (by kernel_rfl) (by kernel_rfl) (by kernel_rfl) (fun _ _ _ h => h) (Or.inl ⟨by rfl, ?_⟩) (by assumption) ?_
      rotate_left
      · intro w hSw
        (try dsimp only at hSw)
        go_simp
        all_goals (try with_reducible rfl)
      try simp only [Act.put, List.setIfInBounds_toArray, List.set_cons_zero, List.set_cons_succ]
      refine wpAnyH_take (i := 3) (oi := (Oper.mk (some 42) (Op.binOp _ _ _ _ _) _ _ _ _)) (v := ?_) rfl (by kernel_rfl) (by kernel_rfl) (by kernel_rfl) (fun _ _ _ h => h) (Or.inl ⟨by rfl, ?_⟩) (by assumption) ?_
      rotate_left
      · intro w hSw
        (try dsimp only at hSw)
        go_simp
        all_goals (try with_reducible rfl)
      try simp only [Act.put, List.setIfInBounds_toArray, List.set_cons_zero, List.set_cons_succ]
      refine wpAnyH_ready (rs := [5]) (by kernel_rfl) (by simp) ?_
      refine AllReadyH.cons (o := (Oper.mk (some 44) (Op.call _) _ _ _ _)) rfl (fun K hK => ?_) ?_
      · go_simp
        (go_at_call 7; refine (cT2.out _).mono ?_; rintro e wb ⟨rfl, bb⟩)
        have B112 := bel_on B111 bb
        have T112 := there_on T111 L111 bb
        have L112 := Nat.lt_of_lt_of_le L111 bb.size
        refine hK.out _ _ ?_ (fun hHeld => ?_)
        · exact KS.out _ B112
        clear hK K
        try simp only [Act.put, List.setIfInBounds_toArray, List.set_cons_zero, List.set_cons_succ]
        refine wpAnyH_take (i := 6) (oi := (Oper.mk (some 45) (Op.binOp _ _ _ _ _) _ _ _ _)) (v := ?_) rfl (by kernel_rfl) (by kernel_rfl) (by kernel_rfl) (fun _ _ _ h => h) (Or.inl ⟨by rfl, ?_⟩) (by assumption) ?_
        rotate_left
        · intro w hSw
          (try dsimp only at hSw)
          go_simp
          all_goals (try with_reducible rfl)
        try simp only [Act.put, List.setIfInBounds_toArray, List.set_cons_zero, List.set_cons_succ]
        refine wpAnyH_take (i := 7) (oi := (Oper.mk (some 46) (Op.binOp _ _ _ _ _) _ _ _ _)) (v := ?_) rfl (by kernel_rfl) (by kernel_rfl) (by kernel_rfl) (fun _ _ _ h => h) (Or.inl ⟨by rfl, ?_⟩) (by assumption) ?_
        rotate_left
        · intro w hSw
          (try dsimp only at hSw)
          go_simp
          all_goals (try with_reducible rfl)
        try simp only [Act.put, List.setIfInBounds_toArray, List.set_cons_zero, List.set_cons_succ]
        refine wpAnyH_ready (rs := [8]) (by kernel_rfl) (by simp) ?_
        refine AllReadyH.cons (o := (Oper.mk (some 47) (Op.call _) _ _ _ _)) rfl (fun K hK => ?_) ?_
        · go_simp
          (go_at_call 6; refine (cF.out _).mono ?_; rintro e wc ⟨ma, mc, fa, fc, ca, cc, rfl, lp, bc, lpf⟩)
          have B113 := bel_on B112 bc
          have T113 := there_on T112 L112 bc
          have L113 := Nat.lt_of_lt_of_le L112 bc.size
          refine hK.out _ _ ?_ (fun hHeld => ?_)
          · exact KS.out _ B113
          clear hK K
          try simp only [Act.put, List.setIfInBounds_toArray, List.set_cons_zero, List.set_cons_succ]
          refine wpAnyH_take (i := 9) (oi := (Oper.mk (some 38) (Op.move _) _ _ _ _)) (v := ?_) rfl (by kernel_rfl) (by kernel_rfl) (by kernel_rfl) (fun _ _ _ h => h) (Or.inl ⟨by rfl, ?_⟩) (by assumption) ?_
          rotate_left
          · intro w hSw
            (try dsimp only at hSw)
            go_simp
            all_goals (try with_reducible rfl)
          try simp only [Act.put, List.setIfInBounds_toArray, List.set_cons_zero, List.set_cons_succ]
          refine wpAnyH_take (i := 10) (oi := (Oper.mk (some 48) (Op.extract _ _) _ _ _ _)) (v := ?_) rfl (by kernel_rfl) (by kernel_rfl) (by kernel_rfl) (fun _ _ _ h => h) (Or.inl ⟨by rfl, ?_⟩) (by assumption) ?_
          rotate_left
          · intro w hSw
            (try dsimp only at hSw)
            go_simp
            all_goals (try with_reducible rfl)
          try simp only [Act.put, List.setIfInBounds_toArray, List.set_cons_zero, List.set_cons_succ]
          refine wpAnyH_take (i := 11) (oi := (Oper.mk (some 49) (Op.extract _ _) _ _ _ _)) (v := ?_) rfl (by kernel_rfl) (by kernel_rfl) (by kernel_rfl) (fun _ _ _ h => h) (Or.inl ⟨by rfl, ?_⟩) (by assumption) ?_
          rotate_left
          · intro w hSw
            (try dsimp only at hSw)
            go_simp
            all_goals (try with_reducible rfl)
          try simp only [Act.put, List.setIfInBounds_toArray, List.set_cons_zero, List.set_cons_succ]
          refine wpAnyH_ready (rs := [13]) (by kernel_rfl) (by simp) ?_
          refine AllReadyH.cons (o := (Oper.mk none (Op.store 31 (Operand.tmp 9) (Operand.tmp 48)) _ _ _ _)) rfl (fun K hK => ?_) AllReadyH.nil
          rw [if_pos (by rfl)]
          refine wp_store_mid 31 (.tmp 9) (.tmp 48) rfl _ 0 #[.string p.name, .string p.cur, .int .i64 p.a.y, .int .i64 p.a.m, .int .i64 p.a.d, .int .i64 p.b.y, .int .i64 p.b.m, .int .i64 p.b.d, .slice ma p.meters.length mc, .slice fa p.fees.length fc, .slice ca p.charges.length cc, .int .i64 p.line, .int .i64 p.col] rfl rfl T113 (by kernel_rfl) (by simp [Value.oneCell']) ?_
          have BZ := below_setCells G110 [.string p.name, .string p.cur, .int .i64 p.a.y, .int .i64 p.a.m, .int .i64 p.a.d, .int .i64 p.b.y, .int .i64 p.b.m, .int .i64 p.b.d, .slice ma p.meters.length mc, .slice fa p.fees.length fc, .slice ca p.charges.length cc, .int .i64 p.line, .int .i64 p.col] 0 _ B113
          have LZ := lpf _ L112 0 [.string p.name, .string p.cur, .int .i64 p.a.y, .int .i64 p.a.m, .int .i64 p.a.d, .int .i64 p.b.y, .int .i64 p.b.m, .int .i64 p.b.d, .slice ma p.meters.length mc, .slice fa p.fees.length fc, .slice ca p.charges.length cc, .int .i64 p.line, .int .i64 p.col]
          have RZ := World.rangeAt_setCells_same _ _ _ [.string p.name, .string p.cur, .int .i64 p.a.y, .int .i64 p.a.m, .int .i64 p.a.d, .int .i64 p.b.y, .int .i64 p.b.m, .int .i64 p.b.d, .slice ma p.meters.length mc, .slice fa p.fees.length fc, .slice ca p.charges.length cc, .int .i64 p.line, .int .i64 p.col] T113
          refine hK.out _ _ ?_ (fun hHeld => ?_)
          · exact KS.out _ BZ
          clear hK K
          refine wpAnyH_take (i := 14) (oi := (Oper.mk (some 10) (Op.assign _) _ _ _ _)) (v := ?_) rfl (by kernel_rfl) (by kernel_rfl) (by kernel_rfl) (fun _ _ _ h => h) (Or.inl ⟨by rfl, ?_⟩) (by assumption) ?_
          rotate_left
          · intro w hSw
            (try dsimp only at hSw)
            go_simp
            all_goals (try with_reducible rfl)
          refine wpAnyH_done (by kernel_rfl) ?_ _
          dsimp only
          simp only [Act.put, List.setIfInBounds_toArray, List.set_cons_zero, List.set_cons_succ]
          obtain ⟨W9, hW9⟩ : ∃ W, W = wc.setCells w5.heap.size 0 [.string p.name, .string p.cur, .int .i64 p.a.y, .int .i64 p.a.m, .int .i64 p.a.d, .int .i64 p.b.y, .int .i64 p.b.m, .int .i64 p.b.d, .slice ma p.meters.length mc, .slice fa p.fees.length fc, .slice ca p.charges.length cc, .int .i64 p.line, .int .i64 p.col] := ⟨_, rfl⟩
          have BZ : Below w5.heap.size w5 (wc.setCells w5.heap.size 0 [.string p.name, .string p.cur, .int .i64 p.a.y, .int .i64 p.a.m, .int .i64 p.a.d, .int .i64 p.b.y, .int .i64 p.b.m, .int .i64 p.b.d, .slice ma p.meters.length mc, .slice fa p.fees.length fc, .slice ca p.charges.length cc, .int .i64 p.line, .int .i64 p.col]) := BZ
          have LZ : PlanLies (wc.setCells w5.heap.size 0 [.string p.name, .string p.cur, .int .i64 p.a.y, .int .i64 p.a.m, .int .i64 p.a.d, .int .i64 p.b.y, .int .i64 p.b.m, .int .i64 p.b.d, .slice ma p.meters.length mc, .slice fa p.fees.length fc, .slice ca p.charges.length cc, .int .i64 p.line, .int .i64 p.col]) [.string p.name, .string p.cur, .int .i64 p.a.y, .int .i64 p.a.m, .int .i64 p.a.d, .int .i64 p.b.y, .int .i64 p.b.m, .int .i64 p.b.d, .slice ma p.meters.length mc, .slice fa p.fees.length fc, .slice ca p.charges.length cc, .int .i64 p.line, .int .i64 p.col] p ma mc fa fc ca cc := LZ
          have RZ : (wc.setCells w5.heap.size 0 [.string p.name, .string p.cur, .int .i64 p.a.y, .int .i64 p.a.m, .int .i64 p.a.d, .int .i64 p.b.y, .int .i64 p.b.m, .int .i64 p.b.d, .slice ma p.meters.length mc, .slice fa p.fees.length fc, .slice ca p.charges.length cc, .int .i64 p.line, .int .i64 p.col]).rangeAt w5.heap.size 0 [.string p.name, .string p.cur, .int .i64 p.a.y, .int .i64 p.a.m, .int .i64 p.a.d, .int .i64 p.b.y, .int .i64 p.b.m, .int .i64 p.b.d, .slice ma p.meters.length mc, .slice fa p.fees.length fc, .slice ca p.charges.length cc, .int .i64 p.line, .int .i64 p.col] := RZ
          rw [← hW9] at BZ LZ RZ ⊢
          clear hW9
          have HBZ := hid BZ
          have HRZ := hid RZ
          have cQ1 := cQ.out _ ma mc fa fc ca cc LZ
          clear BZ RZ LZ cQ lp lpf KS HP cF cT1 cT2
          by_cases hba : b < a
          · rw [if_pos hba] at cQ1
            have cQ2 := hid cQ1
            clear cQ1
            go_wp2_with (first | (with_reducible refine wpList_load_mid (op := Oper.mk (some 52) (Op.load 31 (Operand.tmp 9)) _ _ _ _) ?_ 31 (.tmp 9) ?_ w5.heap.size 0 ?_ [.string p.name, .string p.cur, .int .i64 p.a.y, .int .i64 p.a.m, .int .i64 p.a.d, .int .i64 p.b.y, .int .i64 p.b.m, .int .i64 p.b.d, .slice ma p.meters.length mc, .slice fa p.fees.length fc, .slice ca p.charges.length cc, .int .i64 p.line, .int .i64 p.col] _ HRZ.out Try.underlying31 ?_ ?_ ?_; rfl; rfl; go_simp; rfl; kernel_rfl) | fail)
            refine cQ2.out.mono ?_
            rintro e w9 ⟨rfl, b9⟩
            have BF := hid (bel_on (bel_on B5.out HBZ.out) b9)
            clear b9 cQ2
            go_wp2
            go_ret
            exact ⟨rfl, bel_on BF.out (bel_alloc _ _)⟩
          rw [if_neg hba] at cQ1
          by_cases hbb : 3999 < b - a
          · rw [if_pos hbb] at cQ1
            have cQ2 := hid cQ1
            clear cQ1
            go_wp2_with (first | (with_reducible refine wpList_load_mid (op := Oper.mk (some 52) (Op.load 31 (Operand.tmp 9)) _ _ _ _) ?_ 31 (.tmp 9) ?_ w5.heap.size 0 ?_ [.string p.name, .string p.cur, .int .i64 p.a.y, .int .i64 p.a.m, .int .i64 p.a.d, .int .i64 p.b.y, .int .i64 p.b.m, .int .i64 p.b.d, .slice ma p.meters.length mc, .slice fa p.fees.length fc, .slice ca p.charges.length cc, .int .i64 p.line, .int .i64 p.col] _ HRZ.out Try.underlying31 ?_ ?_ ?_; rfl; rfl; go_simp; rfl; kernel_rfl) | fail)
            refine cQ2.out.mono ?_
            rintro e w9 ⟨rfl, b9⟩
            have BF := hid (bel_on (bel_on B5.out HBZ.out) b9)
            clear b9 cQ2
            go_wp2
            go_ret
            exact ⟨rfl, bel_on BF.out (bel_alloc _ _)⟩
          rw [if_neg hbb] at cQ1
          have cQ2 := hid cQ1
          clear cQ1
          go_wp2_with (first | (with_reducible refine wpList_load_mid (op := Oper.mk (some 52) (Op.load 31 (Operand.tmp 9)) _ _ _ _) ?_ 31 (.tmp 9) ?_ w5.heap.size 0 ?_ [.string p.name, .string p.cur, .int .i64 p.a.y, .int .i64 p.a.m, .int .i64 p.a.d, .int .i64 p.b.y, .int .i64 p.b.m, .int .i64 p.b.d, .slice ma p.meters.length mc, .slice fa p.fees.length fc, .slice ca p.charges.length cc, .int .i64 p.line, .int .i64 p.col] _ HRZ.out Try.underlying31 ?_ ?_ ?_; rfl; rfl; go_simp; rfl; kernel_rfl) | fail)
          refine cQ2.out.mono ?_
          rintro e w9 ⟨rfl, b9⟩
          have BF := hid (bel_on (bel_on B5.out HBZ.out) b9)
          clear b9 cQ2
          go_wp2
          go_ret
          exact ⟨rfl, bel_on BF.out (bel_alloc _ _)⟩
        exact AllReadyH.nil
      exact AllReadyH.nil
    exact AllReadyH.nil
  exact AllReadyH.nil
end Go.Proofs.Ytcbeocpllnmcjaa.L09

/- What the document's answers for layer 3 (poundageref03) come to: Of. -/
import Derived.Test.YtagaoalafmdnbaaDoorRef3c
namespace Go.Proofs.YtagaoalafmdnbaaDoor.R3
open Go.RowKit Go.Sort P Dt

set_option maxHeartbeats 2000000 in
theorem of_walk (n : Int) (G : Ending) (w : World)
    (hN : Hid (n < 0 ∨ 3652059 ≤ n → .returned (.tuple #[.agg #[.int .i64 0, .int .i64 0, .int .i64 0], .bool false]) = G))
    (hY : Hid (∀ y m d, good y m d = true → num y m d = n → .returned (.tuple #[.agg #[.int .i64 y, .int .i64 m, .int .i64 d], .bool true]) = G)) :
    Calls Tryd.prog 21 #[.int .i64 n] w fun e w' => e = G ∧ Below w.heap.size w w' := by
  by_cases h : n < 0 ∨ 4000000 < n
  · have hG := hid (hN.out (by omega))
    clear hN hY
    have h' : n < 0 ∨ (¬ n < 0 ∧ 4000000 < n) := by omega
    clear h
    go_enter Tryd.func21, Tryd.ntmps21
    rcases h' with h | ⟨h1, h2⟩
    · go_wp2
      exact bodyPost_ret (v := .tuple #[.agg #[.int .i64 0, .int .i64 0, .int .i64 0], .bool false]) (by simp [results, Tryd.results21, go_sem]) rfl ⟨hG.out, (Below.refl _ _).alloc (Nat.le_refl _) _⟩
    · go_wp2
      exact bodyPost_ret (v := .tuple #[.agg #[.int .i64 0, .int .i64 0, .int .i64 0], .bool false]) (by simp [results, Tryd.results21, go_sem]) rfl ⟨hG.out, (Below.refl _ _).alloc (Nat.le_refl _) _⟩
  · have h0 : 0 ≤ n := by omega
    have h1 : n ≤ 4000000 := by omega
    have L : Lies3 (w.alloc (.cells #[.int .i64 0, .int .i64 0, .int .i64 0] 23)) w.heap.size (.int .i64 0) (.int .i64 0) (.int .i64 0) := Lies3.new rfl
    clear h
    go_enter Tryd.func21, Tryd.ntmps21
    go_wp2
    go_loopw [0, 4] (fun r y wr => ∃ r' y' : Int, y = .int .i64 y' ∧ r = .int .i64 r' ∧ 1 ≤ y' ∧ y' ≤ 10000 ∧ 0 ≤ r' ∧ r' + yrs y' = n ∧ Lies3 wr w.heap.size (.int .i64 0) (.int .i64 0) (.int .i64 0) ∧ Below w.heap.size w wr) (fun _ y _ => (10000 - intOf y).toNat)
    case atStart => exact ⟨n, 1, rfl, rfl, by omega, by omega, h0, by rw [yrs_1]; omega, L, (Below.refl _ _).alloc (Nat.le_refl _) _⟩
    case round =>
      obtain ⟨r', y', rfl, rfl, y0, y1, r0, hr, L', hb⟩ := hrel
      by_cases hy : y' ≤ 9999
      · have hst := yrs_step y'
        have h13 := mon_13 y'
        have hyb := yrs_bound (y := y') y0 (by omega)
        obtain ⟨K, hK, hKl⟩ : ∃ K, K = 365 + lp y' ∧ ((leap y' = true ∧ K = 366) ∨ (leap y' = false ∧ K = 365)) := by
          refine ⟨_, rfl, ?_⟩
          cases hl : leap y'
          · rw [lp_no hl]; exact .inr ⟨rfl, rfl⟩
          · rw [lp_yes hl]; exact .inl ⟨rfl, rfl⟩
        rw [← hK] at h13
        rw [Int.add_assoc, ← hK] at hst
        clear hK
        rcases hKl with ⟨hl, rfl⟩ | ⟨hl, rfl⟩
        all_goals
          rcases Decidable.em (r' + mon y' 1 < mon y' 13) with hc | hc
          all_goals
            rw [mon_1, h13] at hc
          · go_wp2_with (go_at_call 11; refine (leap_any _ _).mono ?_; rintro e w' ⟨rfl, h'⟩; rw [h'])
            go_loopw [0, 6] (fun q m wr => ∃ q' m' : Int, m = .int .i64 m' ∧ q = .int .i64 q' ∧ 1 ≤ m' ∧ m' ≤ 12 ∧ 0 ≤ q' ∧ q' + mon y' m' = r' ∧ Lies3 wr w.heap.size (.int .i64 0) (.int .i64 0) (.int .i64 0) ∧ Below w.heap.size w wr) (fun _ m _ => (13 - intOf m).toNat)
            case atStart => exact ⟨r', 1, rfl, rfl, by omega, by omega, r0, by rw [mon_1]; omega, L', hb⟩
            case round =>
              obtain ⟨q', m', rfl, rfl, m0, m1, q0, hq, L2, hb2⟩ := hrel
              have hms := mon_step (y := y') m0 m1
              have hd := days_in (y := y') m0 m1
              have hmb := mon_bound (y := y') m0 (by omega)
              by_cases ht : q' < days y' m'
              · have g : good y' m' (q' + 1) = true := good_iff.2 ⟨y0, hy, m0, m1, by omega, by omega⟩
                have e : num y' m' (q' + 1) = n := by unfold num; omega
                have hG := hid (hY.out _ _ _ g e)
                clear hY hN g e
                go_wp2_with (go_at_call 13; refine (days_any _ _ _).mono ?_; rintro e w2 ⟨rfl, b2⟩; have L3 := L2.on b2; have hb3 := below_on hb2 b2; obtain ⟨l, c0, c1, c2, f0, f1, f2⟩ := L3)
                exact bodyPost_ret (v := .tuple #[.agg #[.int .i64 y', .int .i64 m', .int .i64 (q' + 1)], .bool true]) (by simp [results, Tryd.results21, go_sem, *]) rfl
                  ⟨hG.out, ((hb3.setCell (Nat.le_refl _) _).setCell (Nat.le_refl _) _).setCell (Nat.le_refl _) _⟩
              · have hm12 : m' ≤ 11 := by
                  rcases Decidable.em (m' ≤ 11) with k | k
                  · exact k
                  · obtain rfl : m' = 12 := by omega
                    rw [show (12 : Int) + 1 = 13 from rfl, h13] at hms
                    omega
                go_wp2_with (go_at_call 13; refine (days_any _ _ _).mono ?_; rintro e w2 ⟨rfl, b2⟩; have L3 := L2.on b2; have hb3 := below_on hb2 b2; clear L2 hb2 b2; have L2 := L3; have hb2 := hb3; clear L3 hb3)
                go_roundw
                case rel => exact ⟨q' - days y' m', m' + 1, rfl, rfl, by omega, by omega, by omega, by rw [hms]; omega, L2, hb2⟩
                case measure => simp [intOf]; omega
          · go_wp2_with (go_at_call 11; refine (leap_any _ _).mono ?_; rintro e w' ⟨rfl, h'⟩; rw [h'])
            go_roundw
            case rel => exact ⟨_, y' + 1, rfl, rfl, by omega, by omega, by omega, by rw [hst]; omega, L', hb⟩
            case measure => simp [intOf]; omega
      · obtain rfl : y' = 10000 := by omega
        rw [yrs_10000] at hr
        have hG := hid (hN.out (by omega))
        clear hY hN
        obtain ⟨l, c0, c1, c2, f0, f1, f2⟩ := L'
        go_wp2
        exact bodyPost_ret (v := .tuple #[.agg #[.int .i64 0, .int .i64 0, .int .i64 0], .bool false]) (by simp [results, Tryd.results21, go_sem, *]) rfl
          ⟨hG.out, ((hb.setCell (Nat.le_refl _) _).setCell (Nat.le_refl _) _).setCell (Nat.le_refl _) _⟩
end Go.Proofs.YtagaoalafmdnbaaDoor.R3

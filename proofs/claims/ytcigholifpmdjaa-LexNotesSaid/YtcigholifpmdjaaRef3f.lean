/- What the document's answers for layer 3 (poundageref03) come to: Parse. -/
import Derived.Test.YtcigholifpmdjaaRef3b
import Derived.Test.YtcigholifpmdjaaDatQ
namespace Go.Proofs.Ytcigholifpmdjaa.R3
open Go.RowKit Go.Sort P

theorem parse_len (s : ByteArray) (w : World) (h : s.size ≠ 10) :
    Calls Try.prog 21 #[.string s] w fun e w' => e = .returned (.tuple #[.agg #[.int .i64 0, .int .i64 0, .int .i64 0], .bool false]) ∧ Below w.heap.size w w' := by
  have h1 : ((s.size : Int) != 10) = true := by simp; omega
  go_enter Try.func21, Try.ntmps21
  go_wp2
  exact bodyPost_ret (v := .tuple #[.agg #[.int .i64 0, .int .i64 0, .int .i64 0], .bool false]) (by simp [results, Try.results21, go_sem]) rfl ⟨rfl, (Below.refl _ _).alloc (Nat.le_refl _) _⟩
/-- A letter of the text, as the walk reads it. -/
theorem byte_at (s : ByteArray) (i : Int) (h0 : 0 ≤ i) (h1 : i < s.size) (W : World) : (Instr.index 9 (.string s) (.int .i64 i)).run Try.prog W = .ok (.int .u8 ((s.data.toList.getD i.toNat 0).toNat : Int)) W := by
  have hl : i.toNat < s.data.toList.length := by show _ < s.size; omega
  rw [run_index_string W 9 s .i64 i Try.underlying9, dif_pos ⟨h0, h1⟩, List.getD_eq_getElem?_getD, List.getElem?_eq_getElem hl, at_byte s i.toNat (by omega), Option.getD_some]
set_option maxHeartbeats 2000000 in
theorem parse_walk (s : ByteArray) (G : Ending) (w : World) (hs : s.size = 10)
    (hN : Hid (reads s.data.toList = false → .returned (.tuple #[.agg #[.int .i64 0, .int .i64 0, .int .i64 0], .bool false]) = G))
    (hY : Hid (reads s.data.toList = true → .returned (.tuple #[.agg #[.int .i64 (yearOf s.data.toList), .int .i64 (monthOf s.data.toList), .int .i64 (dayOf s.data.toList)], .bool true]) = G)) :
    Calls Try.prog 21 #[.string s] w fun e w' => e = G ∧ Below w.heap.size w w' := by
  have hl : s.data.toList.length = 10 := by simpa using hs
  have h1 : (s.size : Int) = 10 := by omega
  have B0 : Below w.heap.size w (w.alloc (.cells #[.int .i64 0, .int .i64 0, .int .i64 0] 48)) := (Below.refl _ _).alloc (Nat.le_refl _) _
  have hbyte := byte_at s
  obtain ⟨l, hlst⟩ : ∃ l, l = s.data.toList := ⟨_, rfl⟩
  rw [← hlst] at hN hY hl hbyte
  go_enter Try.func21, Try.ntmps21
  go_wp2
  go_loop [4, 5] (fun n i => ∃ n' i' : Int, n = .int .i64 n' ∧ i = .int .i64 i' ∧ 0 ≤ i' ∧ i' ≤ 10 ∧ Hid (n' = (nvl l i'.toNat : Int)) ∧ Hid (∀ j, j < i'.toNat → okAt l j = true)) (fun _ i => (10 - intOf i).toNat)
  case atStart => exact ⟨0, 0, rfl, rfl, by omega, by omega, rfl, hid (fun j hj => by simp at hj)⟩
  case round =>
    obtain ⟨n', i', rfl, rfl, i0, i1, hn, hok⟩ := hrel
    by_cases hi : i' < 10
    · have hx := hbyte i' i0 (by omega)
      obtain ⟨x, hxx⟩ : ∃ x : Int, x = ((l.getD i'.toNat 0).toNat : Int) := ⟨_, rfl⟩
      rw [← hxx] at hx
      have hlt := nvl_lt l i'.toNat hok.out
      have hpw : 10 ^ i'.toNat ≤ 10 ^ 9 := Nat.pow_le_pow_right (by decide) (by omega)
      have hn0 : 0 ≤ n' := by rw [hn.out]; omega
      have hn1 : n' < 1000000000 := by rw [hn.out]; omega
      have e1 : (i' + 1).toNat = i'.toNat + 1 := by omega
      have bad : okAt l i'.toNat = false → Hid (.returned (.tuple #[.agg #[.int .i64 0, .int .i64 0, .int .i64 0], .bool false]) = G) := fun k => hid (hN.out (by
        unfold reads
        rw [not_formed hl (by omega) k]
        rfl))
      have nxt : okAt l i'.toNat = true → Hid (∀ j, j < (i' + 1).toNat → okAt l j = true) := fun k => hid (fun j hj => by
        rcases Nat.lt_or_ge j i'.toNat with a | a
        · exact hok.out j a
        · rw [show j = i'.toNat by omega]; exact k)
      have hx0 : 0 ≤ x := by omega
      have hx1 : x ≤ 255 := by
        have := (l.getD i'.toNat 0).toNat_lt
        omega
      clear hlt hpw hbyte hN hY
      by_cases hd : i' = 4 ∨ i' = 7
      · have hd' : i'.toNat = 4 ∨ i'.toNat = 7 := by omega
        have hnv := nvl_dash l hd'
        by_cases h45 : x = 45
        · have k : okAt l i'.toNat = true := by
            unfold okAt
            rw [if_pos hd', decide_eq_true_eq]
            exact UInt8.toNat_inj.1 (by show _ = 45; omega)
          have K := nxt k
          have HN : Hid (n' = (nvl l (i' + 1).toNat : Int)) := hid (by rw [e1, hnv]; exact hn.out)
          clear bad nxt k hd' hnv hxx hn hok e1
          rcases hd with rfl | rfl
          all_goals
            subst h45
            go_wp2
            go_round
            case rel => exact ⟨n', _, rfl, rfl, by omega, by omega, HN, K⟩
            case measure => simp [intOf]
        · have k : okAt l i'.toNat = false := by
            unfold okAt
            rw [if_pos hd', decide_eq_false_iff_not]
            intro c
            rw [c] at hxx
            exact h45 hxx
          have hG := bad k
          have hne : (x != 45) = true := by simpa using h45
          clear bad nxt k hd' hnv hxx hn hok e1
          rcases hd with rfl | rfl
          all_goals
            go_wp2
            exact bodyPost_ret (v := .tuple #[.agg #[.int .i64 0, .int .i64 0, .int .i64 0], .bool false]) (by simp [results, Try.results21, go_sem, *]) rfl ⟨hG.out, B0⟩
      · have hd' : ¬ (i'.toNat = 4 ∨ i'.toNat = 7) := by omega
        have h4 : ¬ i' = 4 := by omega
        have h7 : ¬ i' = 7 := by omega
        have hnv := nvl_dig l hd'
        have h4b : (i' == 4) = false := by simpa using h4
        have h7b : (i' == 7) = false := by simpa using h7
        by_cases hdig : 48 ≤ x ∧ x ≤ 57
        · have k : okAt l i'.toNat = true := by
            unfold okAt isD
            rw [if_neg hd', decide_eq_true_eq]
            omega
          have K := nxt k
          have HN : Hid (10 * n' + (x - 48) = (nvl l (i' + 1).toNat : Int)) := hid (by rw [e1, hnv, hn.out]; omega)
          obtain ⟨hg0, hg1⟩ := hdig
          clear bad nxt k hd hd' hnv hxx hn hok e1
          go_wp2
          go_round
          case rel => exact ⟨_, i' + 1, rfl, rfl, by omega, by omega, HN, K⟩
          case measure => simp [intOf]; omega
        · have k : okAt l i'.toNat = false := by
            unfold okAt isD
            rw [if_neg hd', decide_eq_false_iff_not]
            omega
          have hG := bad k
          have hc : x < 48 ∨ (¬ x < 48 ∧ 57 < x) := by omega
          clear bad nxt k hd hd' hnv hxx hn hok e1 hdig
          rcases hc with hc | ⟨hc, hc2⟩
          all_goals
            go_wp2
            exact bodyPost_ret (v := .tuple #[.agg #[.int .i64 0, .int .i64 0, .int .i64 0], .bool false]) (by simp [results, Try.results21, go_sem, *]) rfl ⟨hG.out, B0⟩
    · obtain rfl : i' = 10 := by omega
      have hf : formed l = true := (formed_iff hl).2 (fun j hj => hok.out j (by simpa using hj))
      obtain ⟨ey, em, ed⟩ := nvl_ten hl hf
      have hnv : n' = (nvl l 10 : Int) := hn.out
      have hlt := nvl_lt l 10 (fun j hj => hok.out j (by simpa using hj))
      rw [← hnv] at ey em ed
      have hn0 : 0 ≤ n' := by omega
      have hn1 : n' < 10000000000 := by omega
      have er : reads l = good (yearOf l) (monthOf l) (dayOf l) := by unfold reads; rw [hf]; rfl
      have cG : ∀ W, Calls Try.prog 31 #[.agg #[.int .i64 (yearOf l), .int .i64 (monthOf l), .int .i64 (dayOf l)]] W fun e w' => e = .returned (.bool (good (yearOf l) (monthOf l) (dayOf l))) ∧ Below W.heap.size W w' := fun W => good_any _ _ _ W
      obtain ⟨Y, hY'⟩ : ∃ Y, Y = yearOf l := ⟨_, rfl⟩
      obtain ⟨M, hM'⟩ : ∃ M, M = monthOf l := ⟨_, rfl⟩
      obtain ⟨D, hD'⟩ : ∃ D, D = dayOf l := ⟨_, rfl⟩
      rw [← hY', ← hM', ← hD'] at er hY
      simp only [← hY', ← hM', ← hD'] at cG
      rw [← hY'] at ey; rw [← hM'] at em; rw [← hD'] at ed
      have LA : ∀ o, Lies3 ((w.alloc (.cells #[.int .i64 0, .int .i64 0, .int .i64 0] 48)).alloc o) w.heap.size (.int .i64 0) (.int .i64 0) (.int .i64 0) := fun o => (Lies3.new rfl).alloc o
      have hsz : (w.alloc (.cells #[.int .i64 0, .int .i64 0, .int .i64 0] 48)).heap.size = w.heap.size + 1 := by simp
      clear hok hn hf hlt hY' hM' hD' hnv hbyte hlst hl
      cases hg : good Y M D
      · rw [hg] at cG er
        have hG := hid (hN.out er)
        clear hN hY er
        go_wp2_with (go_at_call 31; refine (cG _).mono ?_; rintro e w2 ⟨rfl, b2⟩; have L2 := (LA _).on b2; have B2 := B0.trans ((box3 b2).2.2.2.2.mono B0.size); obtain ⟨l2, c0, c1, c2, f0, f1, f2⟩ := L2; clear LA B0 b2)
        exact bodyPost_ret (v := .tuple #[.agg #[.int .i64 0, .int .i64 0, .int .i64 0], .bool false]) (by simp [results, Try.results21, go_sem, *]) rfl
          ⟨hG.out, ((B2.setCell (Nat.le_refl _) _).setCell (Nat.le_refl _) _).setCell (Nat.le_refl _) _⟩
      · rw [hg] at cG er
        have hG := hid (hY.out er)
        clear hN hY er
        go_wp2_with (go_at_call 31; refine (cG _).mono ?_; rintro e w2 ⟨rfl, b2⟩; have L2 := (LA _).on b2; have LC := Lies3.later b2 hsz; have B2 := B0.trans ((box3 b2).2.2.2.2.mono B0.size); obtain ⟨l2, c0, c1, c2, f0, f1, f2⟩ := L2; obtain ⟨l4, k0, k1, k2, q0, q1, q2⟩ := LC; clear LA B0 b2)
        exact bodyPost_ret (v := .tuple #[.agg #[.int .i64 Y, .int .i64 M, .int .i64 D], .bool true]) (by simp [results, Try.results21, go_sem, *]) rfl
          ⟨hG.out, ((B2.setCell (Nat.le_refl _) _).setCell (Nat.le_refl _) _).setCell (Nat.le_refl _) _⟩
end Go.Proofs.Ytcigholifpmdjaa.R3

/- The laws of layer 4, out of what package decimal answers ('Dec'): DecimalBack, DecimalPlaces. -/
import Derived.Test.YtkjlcbjfnffpfaaDoorL04
namespace Go.Proofs.YtkjlcbjfnffpfaaDoor.L04
open Go.RowKit P R4

theorem back_walk {K : World → Prop} (D : Dec K) (n : Int) (wn : (Lit.int .i64 n).wf = true) (places : Int) (wp : (Lit.int .i64 places).wf = true) (w : World) (k : K w) :
    Calls Tryd.prog 4 #[.int .i64 n, .int .i64 places] w fun e w' => e = .returned (.bool true) ∧ Below w.heap.size w w' := by
  have cA := alive_any D w k
  have hn := i64_of_wf wn
  have hp := i64_of_wf wp
  clear wn wp
  by_cases h : n < 0 ∨ places < 0 ∨ 9 < places
  · have cX := fun W kk => D.no n places W kk hn hp h
    have h' : n < 0 ∨ (¬ n < 0 ∧ places < 0) ∨ (¬ n < 0 ∧ ¬ places < 0 ∧ 9 < places) := by omega
    clear h
    go_enter Tryd.func4, Tryd.ntmps4
    rcases h' with h | ⟨h0, h⟩ | ⟨h0, h, h1⟩
    all_goals
      go_wp2_with (first
        | (go_at_call 7; refine cA.mono ?_; rintro e w1 ⟨rfl, b1⟩; have k1 := D.keep k b1)
        | (go_at_call 12; refine (cX _ k1).mono ?_; rintro e w2 ⟨rfl, b2⟩; have B2 := below_on b1 b2))
      go_ret
      exact ⟨rfl, B2⟩
  · have h0 : 0 ≤ n := by omega
    have p0 : 0 ≤ places := by omega
    have p9 : places ≤ 9 := by omega
    have hnn : ((n.toNat : Nat) : Int) = n := by omega
    have hpp : ((places.toNat : Nat) : Int) = places := by omega
    have hlen : (tx n.toNat places.toNat).length ≤ 30 := tx_length (by unfold I64 at hn; omega) (by omega)
    obtain ⟨bk1, bk2⟩ := tx_back (n := n.toNat) (p := places.toNat) (by omega) 9223372036854775807 (by rw [hnn]; exact hn) (by rw [hnn]; exact hn.2)
    rw [hpp] at bk1 bk2
    rw [hnn] at bk1
    have hlast := tx_last (n := n.toNat) (p := places.toNat)
    have hform := tx_fm n.toNat places.toNat
    have cX := fun W kk => D.yes n places W kk h0 hn p0 p9
    obtain ⟨X, hX⟩ : ∃ X : ByteArray, X = ⟨(tx n.toNat places.toNat).toArray⟩ := ⟨_, rfl⟩
    have hXl : X.data.toList = tx n.toNat places.toNat := by rw [hX]
    have hXz : X.size = (tx n.toNat places.toNat).length := by rw [hX, ba_size]
    have hbyte := byte_at X
    have cP := fun W kk => D.parse X places 9223372036854775807 W kk (by omega) hp (by unfold I64; omega)
    have cF := fun W kk => D.of X W kk (by omega)
    rw [hXl] at hbyte
    simp only [hXl, bk1, bk2] at cP cF
    simp only [← hX] at cX
    have hpos : 1 ≤ (tx n.toNat places.toNat).length := by
      have := dec_ne (n.toNat / 10 ^ places.toNat)
      unfold tx
      rw [List.length_append]
      have := List.length_pos_iff.2 this
      omega
    obtain ⟨F, hF⟩ : ∃ F : Int, F = (fm (tx n.toNat places.toNat) : Int) := ⟨_, rfl⟩
    simp only [← hF] at cF
    obtain ⟨l, hl⟩ : ∃ l, l = tx n.toNat places.toNat := ⟨_, rfl⟩
    rw [← hl] at hbyte hlen hXz hpos hlast hF
    clear hX hXl hl bk1 bk2 hform hnn hpp
    have hz : ((X.size : Int) == 0) = false := beq_eq_false_iff_ne.2 (by omega)
    by_cases h1 : F = 1
    · have b1' : (F == 1) = true := by simpa using h1
      clear hbyte hlast hF h1
      go_enter Tryd.func4, Tryd.ntmps4
      go_wp2_with (first
        | (go_at_call 7; refine cA.mono ?_; rintro e w1 ⟨rfl, b1⟩; have k1 := D.keep k b1)
        | (go_at_call 12; refine (cX _ k1).mono ?_; rintro e w2 ⟨rfl, b2⟩; have B2 := below_on b1 b2)
        | (go_at_call 8; refine (cP _ (D.keep k B2)).mono ?_; rintro e w3 ⟨rfl, b3⟩; have B3 := below_on B2 b3)
        | (go_at_call 10; refine (cF _ (D.keep k B3)).mono ?_; rintro e w4 ⟨rfl, b4⟩; have B4 := below_on B3 b4))
      go_ret
      exact ⟨rfl, B4⟩
    · have b1' : (F == 1) = false := by simpa using h1
      obtain ⟨a, c, hac, hc⟩ := hlast (by omega)
      have hy := hbyte ((X.size : Int) - 1) (by omega) (by omega)
      have hidx : ((X.size : Int) - 1).toNat = a.length := by rw [hac, List.length_append] at hXz; simp at hXz; omega
      have hgd : l.getD ((X.size : Int) - 1).toNat 0 = c := by rw [hidx, hac, getD_len]; rfl
      rw [hgd] at hy
      obtain ⟨x, hx⟩ : ∃ x : Int, x = (c.toNat : Int) := ⟨_, rfl⟩
      simp only [← hx] at hy
      have hx48 : (x != 48) = true := by
        rw [bne_iff_ne]
        intro e
        exact hc (UInt8.toNat_inj.1 (by show _ = 48; omega))
      have hx1 : 1 ≤ X.size := by omega
      have hx30 : X.size ≤ 30 := by omega
      clear hbyte hlast hF h1 hx hgd hidx hac hc hXz hlen hpos
      go_enter Tryd.func4, Tryd.ntmps4
      go_wp2_with (first
        | (go_at_call 7; refine cA.mono ?_; rintro e w1 ⟨rfl, b1⟩; have k1 := D.keep k b1)
        | (go_at_call 12; refine (cX _ k1).mono ?_; rintro e w2 ⟨rfl, b2⟩; have B2 := below_on b1 b2)
        | (go_at_call 8; refine (cP _ (D.keep k B2)).mono ?_; rintro e w3 ⟨rfl, b3⟩; have B3 := below_on B2 b3)
        | (go_at_call 10; refine (cF _ (D.keep k B3)).mono ?_; rintro e w4 ⟨rfl, b4⟩; have B4 := below_on B3 b4))
      go_ret
      exact ⟨rfl, B4⟩
theorem places_walk {K : World → Prop} (D : Dec K) (s : ByteArray) (places : Int) (wp : (Lit.int .i64 places).wf = true) (w : World) (k : K w) :
    Calls Tryd.prog 6 #[.string s, .int .i64 places] w fun e w' => e = .returned (.bool true) ∧ Below w.heap.size w w' := by
  have cA := alive_any D w k
  have hp := i64_of_wf wp
  clear wp
  by_cases h : (30 : Int) < s.size ∨ places < 0 ∨ 8 < places
  · have h' : (30 : Int) < s.size ∨ (¬ (30 : Int) < s.size ∧ places < 0) ∨ (¬ (30 : Int) < s.size ∧ ¬ places < 0 ∧ 8 < places) := by omega
    clear h
    go_enter Tryd.func6, Tryd.ntmps6
    rcases h' with h | ⟨h0, h⟩ | ⟨h0, h, h1⟩
    all_goals
      go_wp2_with (go_at_call 7; refine cA.mono ?_; rintro e w1 ⟨rfl, b1⟩)
      go_ret
      exact ⟨rfl, b1⟩
  · have hs : (s.size : Int) ≤ 30 := by omega
    have p0 : 0 ≤ places := by omega
    have p8 : places ≤ 8 := by omega
    have cP := fun W kk => D.parse s places 4611686018427387904 W kk (by omega) hp (by unfold I64; omega)
    have cP' := fun W kk => D.parse s (places + 1) 4611686018427387904 W kk (by omega) (by unfold I64; omega) (by unfold I64; omega)
    obtain ⟨l, hl⟩ : ∃ l, l = s.data.toList := ⟨_, rfl⟩
    simp only [← hl] at cP cP'
    have key : (pW l places 4611686018427387904 = 1 ∧ pN l places 4611686018427387904 = 0) ∨
        (pW l places 4611686018427387904 = 2 ∧ pN l places 4611686018427387904 = 0 ∧ pW l (places + 1) 4611686018427387904 = 2) ∨
        (pW l places 4611686018427387904 = 0 ∧ 0 ≤ pN l places 4611686018427387904 ∧ 10 * pN l places 4611686018427387904 ≤ 4611686018427387904 ∧ pW l (places + 1) 4611686018427387904 = 0 ∧ pN l (places + 1) 4611686018427387904 = 10 * pN l places 4611686018427387904) ∨
        (pW l places 4611686018427387904 = 0 ∧ 0 ≤ pN l places 4611686018427387904 ∧ pN l places 4611686018427387904 ≤ 4611686018427387904 ∧ pW l (places + 1) 4611686018427387904 = 2 ∧ 461168601842738790 < pN l places 4611686018427387904) := by
      cases hb : pBad l places
      · have hb' := hb
        unfold pBad at hb'
        rw [decide_eq_false_iff_not] at hb'
        have hb2 : pBad l (places + 1) = false := by unfold pBad; rw [decide_eq_false_iff_not]; omega
        have hm := pV_more (l := l) (p := places) (by omega)
        have hv : 0 ≤ pV l places := by unfold pV; exact Int.mul_nonneg (by omega) (Int.pow_nonneg (by omega))
        unfold pW pN pGreat
        rw [hb, hb2, hm]
        generalize pV l places = v at *
        by_cases h1 : v ≤ 4611686018427387904
        · have o1 : ok64 v = true := ok64_t (by unfold I64; omega)
          rw [o1, decide_eq_false (show ¬ 4611686018427387904 < v by omega)]
          by_cases h2 : 10 * v ≤ 4611686018427387904
          · have o2 : ok64 (10 * v) = true := ok64_t (by unfold I64; omega)
            rw [o2, decide_eq_false (show ¬ 4611686018427387904 < 10 * v by omega)]
            exact .inr (.inr (.inl ⟨rfl, hv, h2, rfl, rfl⟩))
          · rw [decide_eq_true (show 4611686018427387904 < 10 * v by omega)]
            simp
            omega
        · rw [decide_eq_true (show 4611686018427387904 < v by omega), decide_eq_true (show 4611686018427387904 < 10 * v by omega)]
          simp
      · unfold pW pN
        rw [hb]
        simp
    obtain ⟨N, hN⟩ : ∃ N, N = pN l places 4611686018427387904 := ⟨_, rfl⟩
    obtain ⟨V, hV⟩ : ∃ V, V = pW l places 4611686018427387904 := ⟨_, rfl⟩
    obtain ⟨N', hN'⟩ : ∃ N, N = pN l (places + 1) 4611686018427387904 := ⟨_, rfl⟩
    obtain ⟨V', hV'⟩ : ∃ V, V = pW l (places + 1) 4611686018427387904 := ⟨_, rfl⟩
    simp only [← hN, ← hV] at cP key
    simp only [← hN', ← hV'] at cP' key
    clear hN hV hN' hV' hl h
    rcases key with ⟨rfl, rfl⟩ | ⟨rfl, rfl, rfl⟩ | ⟨rfl, n0, n1, rfl, rfl⟩ | ⟨rfl, n0, n1, rfl, n2⟩
    all_goals
      go_enter Tryd.func6, Tryd.ntmps6
      go_wp2_with (first
        | (go_at_call 7; refine cA.mono ?_; rintro e w1 ⟨rfl, b1⟩; have B := b1; clear b1)
        | (go_at_call_of 8 (Value.int IntKind.i64 places); refine (cP _ (D.keep k B)).mono ?_; rintro e w2 ⟨rfl, b2⟩; replace B := below_on B b2; clear b2 cP)
        | (go_at_call 8; refine (cP' _ (D.keep k B)).mono ?_; rintro e w3 ⟨rfl, b3⟩; replace B := below_on B b3; clear b3))
      go_ret
      exact ⟨ret_b (by simp <;> omega), B⟩
end Go.Proofs.YtkjlcbjfnffpfaaDoor.L04

/- What the document's answers for layer 4 (poundageref04) come to: Parse. -/
import Derived.Test.YtkjlcbjfnffpfaaDoorRef4b
namespace Go.Proofs.YtkjlcbjfnffpfaaDoor.R4
open Go.RowKit P Ex

theorem below_on {w W w' : World} (h : Below w.heap.size w W) (hb : Below W.heap.size W w') : Below w.heap.size w w' := h.trans (hb.mono h.size)
theorem i64_acc (v : Int) : I64 (cut64 v) := i64_cut v
/-- A digit more, as the walk meets it. -/
theorem more_acc (v d : Int) (w : World) (hv : 0 ≤ v) (hd : 0 ≤ d) (hd1 : d ≤ 9) :
    Calls Tryd.prog 18 #[.int .i64 (cut64 v), .int .i64 d, .bool (ok64 v)] w fun e w' => e = .returned (.tuple #[.int .i64 (cut64 (v * 10 + d)), .bool (ok64 (v * 10 + d))]) ∧ Below w.heap.size w w' := by
  have h := more_any (cut64 v) d (ok64 v) w (i64_cut v) (by unfold I64; omega)
  obtain ⟨e1, e2⟩ := acc_step hv hd
  rw [e2, e1] at h
  exact h
set_option maxHeartbeats 4000000 in
theorem parse_any (s : ByteArray) (places most : Int) (w : World) (hs : s.size ≤ 4611686018427387904) :
    Calls Tryd.prog 9 #[.string s, .int .i64 places, .int .i64 most] w fun e w' => e = .returned (.tuple #[.int .i64 (pN s.data.toList places most), .int .i64 (pW s.data.toList places most)]) ∧ Below w.heap.size w w' := by
  have cO := fun W => of_any s W (by omega)
  obtain ⟨l, hl⟩ : ∃ l, l = s.data.toList := ⟨_, rfl⟩
  have hbyte := byte_at s
  have hz : l.length = s.size := by rw [hl]; simp
  rw [← hl]
  rw [← hl] at hbyte
  simp only [← hl] at cO
  clear hl
  obtain ⟨F, hF⟩ : ∃ F : Int, F = (fm l : Int) := ⟨_, rfl⟩
  simp only [← hF] at cO
  by_cases h : F = 0 ∨ places < 0 ∨ 9 < places
  · have hb : pBad l places = true := by unfold pBad; rw [decide_eq_true_eq]; omega
    have e1 := hid (show pN l places most = 0 by unfold pN; rw [hb]; rfl)
    have e2 := hid (show pW l places most = 1 by unfold pW; rw [hb]; rfl)
    clear hb hF hz hbyte
    have h' : F = 0 ∨ (F ≠ 0 ∧ places < 0) ∨ (F ≠ 0 ∧ ¬ places < 0 ∧ 9 < places) := by omega
    clear h
    go_enter Tryd.func9, Tryd.ntmps9
    rcases h' with h | ⟨h0, h⟩ | ⟨h0, h, h1⟩
    · have b0 : (F == 0) = true := by simpa using h
      go_wp2_with (go_at_call 11; refine (cO _).mono ?_; rintro e w' ⟨rfl, h'⟩; rw [h'])
      go_ret2
      exact ⟨ret_2 (vi e1.out.symm) (vi e2.out.symm), Below.refl _ _⟩
    · have b0 : (F == 0) = false := by simpa using h0
      go_wp2_with (go_at_call 11; refine (cO _).mono ?_; rintro e w' ⟨rfl, h'⟩; rw [h'])
      go_ret2
      exact ⟨ret_2 (vi e1.out.symm) (vi e2.out.symm), Below.refl _ _⟩
    · have b0 : (F == 0) = false := by simpa using h0
      go_wp2_with (go_at_call 11; refine (cO _).mono ?_; rintro e w' ⟨rfl, h'⟩; rw [h'])
      go_ret2
      exact ⟨ret_2 (vi e1.out.symm) (vi e2.out.symm), Below.refl _ _⟩
  · have b0 : (F == 0) = false := by simp; omega
    have hfm : fm l ≠ 0 := by omega
    have hall := fm_all hfm
    have h0 : 0 ≤ places := by omega
    have h9 : places ≤ 9 := by omega
    have hBad : pBad l places = decide (places < stB l) := by unfold pBad; rw [decide_eq_decide]; omega
    clear h hF
    go_enter Tryd.func9, Tryd.ntmps9
    go_wp2_with (go_at_call 11; refine (cO _).mono ?_; rintro e w' ⟨rfl, h'⟩; rw [h'])
    clear cO
    go_loopw [8, 9, 10, 11] (fun b n ok i wr => ∃ (b' v' i' : Int), b = .int .i64 b' ∧ n = .int .i64 (cut64 v') ∧ ok = .bool (ok64 v') ∧ i = .int .i64 i' ∧ 0 ≤ i' ∧ i' ≤ s.size ∧ -1 ≤ b' ∧ b' ≤ i' ∧ 0 ≤ v' ∧
      Hid (b' = stB (l.take i'.toNat) ∧ v' = (stV (l.take i'.toNat) : Int)) ∧ Below w.heap.size w wr) (fun _ _ _ i _ => ((s.size : Int) - intOf i).toNat)
    case atStart => exact ⟨-1, 0, 0, rfl, rfl, rfl, rfl, by omega, by omega, by omega, by omega, by omega, hid ⟨rfl, rfl⟩, Below.refl _ _⟩
    case round =>
      obtain ⟨b', v', i', rfl, rfl, rfl, rfl, i0, i1, bl, bu, v0, hst, hbw⟩ := hrel
      by_cases hi : i' < s.size
      · have hil : i'.toNat < l.length := by omega
        have hb := hbyte i' i0 hi
        have e1 : (i' + 1).toNat = i'.toNat + 1 := by omega
        have hdp := dp_or hall hil
        have hts := take_snoc hil
        obtain ⟨hB, hV⟩ := hst.out
        have sB := stB_snoc (l.take i'.toNat) (l.getD i'.toNat 0)
        have sV := stV_snoc (l.take i'.toNat) (l.getD i'.toNat 0)
        rw [← hts] at sB sV
        obtain ⟨c, hc⟩ : ∃ c, c = l.getD i'.toNat 0 := ⟨_, rfl⟩
        rw [← hc] at sB sV hdp
        simp only [← hc] at hb
        obtain ⟨z, hz'⟩ : ∃ z : Int, z = (c.toNat : Int) := ⟨_, rfl⟩
        simp only [← hz'] at hb
        clear hc hts hbyte hst
        rcases hdp with hp46 | hdg
        · have b1 : (z == 46) = true := by rw [hz', hp46]; rfl
          rw [if_pos hp46] at sB sV
          have H : Hid ((0 : Int) = stB (l.take (i' + 1).toNat) ∧ v' = (stV (l.take (i' + 1).toNat) : Int)) := hid (by rw [e1, sB, sV]; exact ⟨rfl, hV⟩)
          clear sB sV hz' hp46 hB hV e1
          go_wp2
          go_roundw
          case rel => exact ⟨0, v', i' + 1, rfl, rfl, rfl, rfl, by omega, by omega, by omega, by omega, v0, H, hbw⟩
          case measure => simp [intOf]; omega
        · have hne := isDg_no46 hdg
          rw [isDg_iff] at hdg
          have b1 : (z == 46) = false := by simp; omega
          rw [if_neg hne] at sB sV
          have z0 : 48 ≤ z := by omega
          have z1 : z ≤ 57 := by omega
          have cM := fun W => more_acc v' (z - 48) W v0 (by omega) (by omega)
          by_cases hb0 : 0 ≤ b'
          · rw [if_pos (by omega)] at sB
            have H : Hid (b' + 1 = stB (l.take (i' + 1).toNat) ∧ v' * 10 + (z - 48) = (stV (l.take (i' + 1).toNat) : Int)) := hid (by rw [e1, sB, sV]; omega)
            clear sB sV hz' hne hB hV e1 hdg
            go_wp2_with (go_at_call 18; refine (cM _).mono ?_; rintro e w2 ⟨rfl, b2⟩; have B2 := below_on hbw b2)
            go_roundw
            case rel => exact ⟨b' + 1, _, i' + 1, rfl, rfl, rfl, rfl, by omega, by omega, by omega, by omega, by omega, H, B2⟩
            case measure => simp [intOf]; omega
          · rw [if_neg (by omega)] at sB
            have H : Hid (b' = stB (l.take (i' + 1).toNat) ∧ v' * 10 + (z - 48) = (stV (l.take (i' + 1).toNat) : Int)) := hid (by rw [e1, sB, sV]; omega)
            clear sB sV hz' hne hB hV e1 hdg
            go_wp2_with (go_at_call 18; refine (cM _).mono ?_; rintro e w2 ⟨rfl, b2⟩; have B2 := below_on hbw b2)
            go_roundw
            case rel => exact ⟨b', _, i' + 1, rfl, rfl, rfl, rfl, by omega, by omega, by omega, by omega, by omega, H, B2⟩
            case measure => simp [intOf]; omega
      · obtain rfl : i' = s.size := by omega
        obtain ⟨hB, hV⟩ := hst.out
        rw [show ((s.size : Int)).toNat = l.length by omega, List.take_length] at hB hV
        rw [← hB] at hBad
        by_cases hgt : places < b'
        · have e1 := hid (show pN l places most = 0 by unfold pN; rw [hBad, decide_eq_true hgt]; rfl)
          have e2 := hid (show pW l places most = 1 by unfold pW; rw [hBad, decide_eq_true hgt]; rfl)
          clear hBad hB hV hst hbyte
          go_wp2
          go_ret2
          exact ⟨ret_2 (vi e1.out.symm) (vi e2.out.symm), hbw⟩
        · rw [decide_eq_false hgt] at hBad
          have hk : pK l places = (places - max b' 0).toNat := by unfold pK; rw [← hB]
          have hpv : pV l places = v' * 10 ^ (places - max b' 0).toNat := by unfold pV; rw [hk, ← hV]
          obtain ⟨k0, hk0⟩ : ∃ k0, k0 = max b' 0 := ⟨_, rfl⟩
          have k00 : 0 ≤ k0 := by omega
          have k01 : k0 ≤ places := by omega
          rw [← hk0] at hpv
          have hmx : (if b' < 0 then 0 else b') = k0 := by rw [hk0]; split <;> omega
          have HP := hid hpv
          have HB := hid hBad
          clear hBad hB hst hbyte hk hpv hV
          go_wp2
          go_loopw [9, 10, 12] (fun n ok k wx => ∃ u k' : Int, n = .int .i64 (cut64 u) ∧ ok = .bool (ok64 u) ∧ k = .int .i64 k' ∧ k0 ≤ k' ∧ k' ≤ places ∧ 0 ≤ u ∧ Hid (u = v' * 10 ^ (k' - k0).toNat) ∧ Below w.heap.size w wx) (fun _ _ k _ => (places - intOf k).toNat)
          case atStart => exact ⟨v', k0, rfl, rfl, vi hk0.symm, by omega, k01, v0, hid (by simp), hbw⟩
          case round =>
            obtain ⟨u, k', rfl, rfl, rfl, q0, q1, u0, hu, hb2⟩ := hrel
            by_cases hlt : k' < places
            · have cM := fun W => more_acc u 0 W u0 (by omega) (by omega)
              have H : Hid (u * 10 = v' * 10 ^ (k' + 1 - k0).toNat) := hid (by
                rw [show (k' + 1 - k0).toNat = (k' - k0).toNat + 1 by omega, Int.pow_succ, ← Int.mul_assoc, ← hu.out])
              clear hu hmx hk0
              go_wp2_with (go_at_call 18; refine (cM _).mono ?_; rintro e w2 ⟨rfl, b2⟩; have B2 := below_on hb2 b2)
              go_roundw
              case rel => exact ⟨_, k' + 1, rfl, rfl, rfl, by omega, by omega, by omega, H, B2⟩
              case measure => simp [intOf]; omega
            · obtain rfl : k' = places := by omega
              have hpu : pV l k' = u := by rw [HP.out, hu.out]
              have hb := HB.out
              clear hmx hk0
              cases hk : ok64 u
              · have e1 := hid (show pN l k' most = 0 by unfold pN pGreat; rw [hb, hpu, hk]; rfl)
                have e2 := hid (show pW l k' most = 2 by unfold pW pGreat; rw [hb, hpu, hk]; rfl)
                clear hpu hb hu
                go_wp2
                go_ret2
                exact ⟨ret_2 (vi e1.out.symm) (vi e2.out.symm), hb2⟩
              · have hI := (ok64_iff u).1 hk
                have hcu : cut64 u = u := cut64_t hI
                rw [hcu]
                by_cases hm : most < u
                · have e1 := hid (show pN l k' most = 0 by unfold pN pGreat; rw [hb, hpu, hk, decide_eq_true hm]; rfl)
                  have e2 := hid (show pW l k' most = 2 by unfold pW pGreat; rw [hb, hpu, hk, decide_eq_true hm]; rfl)
                  clear hpu hb hu
                  go_wp2
                  go_ret2
                  exact ⟨ret_2 (vi e1.out.symm) (vi e2.out.symm), hb2⟩
                · have e1 := hid (show pN l k' most = u by unfold pN pGreat; rw [hb, hpu, hk, decide_eq_false hm]; rfl)
                  have e2 := hid (show pW l k' most = 0 by unfold pW pGreat; rw [hb, hpu, hk, decide_eq_false hm]; rfl)
                  clear hpu hb hu
                  go_wp2
                  go_ret2
                  exact ⟨ret_2 (vi e1.out.symm) (vi e2.out.symm), hb2⟩
end Go.Proofs.YtkjlcbjfnffpfaaDoor.R4

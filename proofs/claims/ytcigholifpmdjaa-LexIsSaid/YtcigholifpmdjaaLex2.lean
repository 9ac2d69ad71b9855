/- What package lex does: names, and where a piece ends. -/
import Derived.Test.YtcigholifpmdjaaLex1
namespace Go.Proofs.Ytcigholifpmdjaa.Le
open Go.RowKit P R4 R5

theorem nm_bad {l : List UInt8} {i : Nat} (h : i < l.length) (hn : isNm (l.getD i 0) = false) : nm l = false := by
  unfold nm
  have : l.all isNm = false := by
    rw [Bool.eq_false_iff]
    intro k
    rw [List.all_eq_true] at k
    rw [k _ (mem_getD h)] at hn
    cases hn
  rw [this]; rfl
theorem name_any (s : ByteArray) (w : World) (hs : s.size ≤ 1000000) : Calls Try.prog 16 #[.string s] w fun e w' => e = .returned (.bool (nm s.data.toList)) ∧ w' = w := by
  have hbyte := byte_at s
  have htl : s.toList = s.data.toList := Lib.toList_data s
  obtain ⟨l, hl⟩ : ∃ l, l = s.data.toList := ⟨_, rfl⟩
  have hz : l.length = s.size := by rw [hl]; simp
  rw [← hl] at htl hbyte ⊢
  clear hl
  have HY := hid hbyte
  clear hbyte
  obtain ⟨N, hN⟩ : ∃ N : Bool, N = nm l := ⟨_, rfl⟩
  rw [← hN]
  replace hN := hid hN
  go_enter Try.func16, Try.ntmps16
  go_wp2
  go_loop [6] (fun i => ∃ i' : Int, i = .int .i64 i' ∧ 0 ≤ i' ∧ i' ≤ s.size ∧ Hid ((l.take i'.toNat).all isNm = true)) (fun i => ((s.size : Int) - intOf i).toNat)
  case atStart => exact ⟨0, rfl, by omega, by omega, hid rfl⟩
  case round =>
    obtain ⟨i', rfl, i0, i1, hst⟩ := hrel
    by_cases hi : i' < s.size
    · have hil : i'.toNat < l.length := by omega
      have hb := HY.out i' i0 hi
      have hts := take_snoc hil
      have hcn := nmI_of (l.getD i'.toNat 0)
      have bad : isNm (l.getD i'.toNat 0) = false → Hid (N = false) := fun h => hid (hN.out.trans (nm_bad hil h))
      have nxt : isNm (l.getD i'.toNat 0) = true → Hid ((l.take (i' + 1).toNat).all isNm = true) := fun h => hid (by
        rw [show (i' + 1).toNat = i'.toNat + 1 by omega, hts, List.all_append, hst.out]; simpa using h)
      obtain ⟨c, hc⟩ : ∃ c, c = l.getD i'.toNat 0 := ⟨_, rfl⟩
      rw [← hc] at hcn bad nxt
      simp only [← hc] at hb
      obtain ⟨z, hz'⟩ : ∃ z : Int, z = (c.toNat : Int) := ⟨_, rfl⟩
      rw [← hz'] at hcn
      simp only [← hz'] at hb
      have cI := fun W => inName_any z W
      rw [hcn] at cI
      clear hst hts hc hz' hcn
      cases hL : isNm c
      · have hG := bad hL
        rw [hL] at cI
        clear bad nxt hL
        go_wp2_with (go_at_call 24; refine (cI _).mono ?_; rintro e w' ⟨rfl, h'⟩; rw [h'])
        go_ret
        exact ⟨ret_b hG.out.symm, rfl⟩
      · have H := nxt hL
        rw [hL] at cI
        clear bad nxt hL
        go_wp2_with (go_at_call 24; refine (cI _).mono ?_; rintro e w' ⟨rfl, h'⟩; rw [h'])
        go_round
        case rel => exact ⟨i' + 1, rfl, by omega, by omega, H⟩
        case measure => simp [intOf]; omega
    · obtain rfl : i' = s.size := by omega
      have ha := hst.out
      rw [show ((s.size : Int)).toNat = l.length by omega, List.take_length] at ha
      by_cases hn : l = []
      · have hG : Hid (N = false) := hid (by rw [hN.out, hn]; rfl)
        have t4 : (l == []) = true := by rw [hn]; rfl
        clear hst ha
        go_wp2
        go_ret
        exact ⟨ret_b hG.out.symm, rfl⟩
      · have t4 : (l == []) = false := beq_eq_false_iff_ne.2 hn
        have hlp : 0 < l.length := List.length_pos_iff.2 hn
        have x0 := HY.out 0 (by omega) (by omega)
        have hd0 := dgI_of (l.getD 0 0)
        have hG : Hid (N = !isDg (l.getD 0 0)) := hid (by
          rw [hN.out]
          unfold nm
          rw [ha]
          cases l with
          | nil => exact absurd rfl hn
          | cons a r => simp)
        rw [← hd0] at hG
        obtain ⟨x, hx⟩ : ∃ x : Int, x = ((l.getD (0 : Int).toNat 0).toNat : Int) := ⟨_, rfl⟩
        simp only [← hx] at x0
        rw [show ((l.getD 0 0).toNat : Int) = x from hx.symm] at hG
        have cD := fun W => digit_any x W
        generalize dgI x = D at *
        clear hst ha hx hd0 hn
        go_wp2_with (go_at_call 25; refine (cD _).mono ?_; rintro e w' ⟨rfl, h'⟩; rw [h'])
        go_ret
        exact ⟨ret_b hG.out.symm, rfl⟩
theorem piece_lone {l : List UInt8} {i : Nat} (hi : i < l.length) (h35 : l.getD i 0 ≠ 35) (hlt : isLt (l.getD i 0) = false) : ends l i = i + 1 := by
  unfold ends
  cases hg : isGap (l.getD i 0)
  · rw [drop_cons0 hi, piece_cons, if_neg (by simpa using h35), if_neg (by rw [hg]; decide), if_neg (by rw [hlt]; decide)]
  · rw [piece_gap hi hg]
set_option maxHeartbeats 1000000 in
theorem end_note (s : ByteArray) (i : Int) (w : World) (hs : s.size ≤ 1000000) (i0 : 0 ≤ i) (i1 : i < s.size) (hc : s.data.toList.getD i.toNat 0 = 35) :
    Calls Try.prog 11 #[.string s, .int .i64 i] w fun e w' => e = .returned (.int .i64 (ends s.data.toList i.toNat)) ∧ w' = w := by
  have hbyte := byte_at s
  obtain ⟨l, hl⟩ : ∃ l, l = s.data.toList := ⟨_, rfl⟩
  have hz : l.length = s.size := by rw [hl]; simp
  rw [← hl] at hbyte hc ⊢
  clear hl
  have hb0 := hbyte i i0 i1
  simp only [hc] at hb0
  have HC := hid hc
  have HY := hid hbyte
  clear hbyte hc
  have hil : i.toNat < l.length := by omega
  obtain ⟨N, hN⟩ : ∃ N : Int, N = (ends l i.toNat : Int) := ⟨_, rfl⟩
  rw [← hN]
  replace hN := hid hN
  go_enter Try.func11, Try.ntmps11
  go_wp2
  go_loop [23] (fun k => ∃ k' : Int, k = .int .i64 k' ∧ 0 ≤ k' ∧ k' ≤ s.size - i ∧ Hid (∀ j : Nat, i.toNat + 1 ≤ j → j < (i + k').toNat → l.getD j 0 ≠ 10)) (fun k => ((s.size : Int) - intOf k).toNat)
  case atStart => exact ⟨0, rfl, by omega, by omega, hid (fun j a b => by omega)⟩
  case round =>
    obtain ⟨k', rfl, k0, k1, hk⟩ := hrel
    by_cases hkl : k' < s.size - i
    · have hbk := HY.out (i + k') (by omega) (by omega)
      obtain ⟨d, hd⟩ : ∃ d, d = l.getD (i + k').toNat 0 := ⟨_, rfl⟩
      simp only [← hd] at hbk
      obtain ⟨y, hy⟩ : ∃ y : Int, y = (d.toNat : Int) := ⟨_, rfl⟩
      have hd10 : y = 10 ↔ d = 10 := ⟨fun h => UInt8.toNat_inj.1 (by show _ = 10; omega), fun h => by rw [hy, h]; rfl⟩
      simp only [← hy] at hbk
      clear hy
      have cN := fun W => note_any y W
      by_cases hy10 : y = 10
      · have hkk : 1 ≤ k' := by
          rcases Int.lt_or_le 0 k' with h | h
          · exact h
          · exfalso
            obtain rfl : k' = 0 := by omega
            rw [Int.add_zero, HC.out] at hd
            rw [hd] at hd10
            exact absurd (hd10.1 hy10) (by decide)
        have hp := hid (piece_note (k := (i + k').toNat) hil (by omega) (by omega) HC.out hk.out (fun _ => hd.symm.trans (hd10.1 hy10)))
        have hG : Hid (N = i + k') := hid (by rw [hN.out]; unfold ends; rw [hp.out]; omega)
        rw [show (y != 10) = false by rw [hy10]; rfl] at cN
        clear hd hd10 hy10 hk hp
        go_wp2_with fail
        refine (cN _).mono ?_; rintro e w' ⟨rfl, h'⟩; rw [h']
        go_wp2
        go_ret
        exact ⟨ret_i hG.out.symm, rfl⟩
      · rw [show (y != 10) = true from bne_iff_ne.2 hy10] at cN
        have hk2 : Hid (∀ j : Nat, i.toNat + 1 ≤ j → j < (i + (k' + 1)).toNat → l.getD j 0 ≠ 10) := hid (fun j a b => by
          rcases Nat.lt_or_ge j (i + k').toNat with h | h
          · exact hk.out j a h
          · rw [show j = (i + k').toNat by omega, ← hd]; exact fun h => hy10 (hd10.2 h))
        clear hd hd10 hy10 hk
        go_wp2_with fail
        refine (cN _).mono ?_; rintro e w' ⟨rfl, h'⟩; rw [h']
        go_wp2
        go_round
        case rel => exact ⟨k' + 1, rfl, by omega, by omega, hk2⟩
        case measure => simp [intOf]; omega
    · obtain rfl : k' = s.size - i := by omega
      have hp := hid (piece_note (k := s.size) hil (by omega) (by omega) HC.out (fun j a b => hk.out j a (by omega)) (fun h => by omega))
      have hG : Hid (N = s.size) := hid (by rw [hN.out]; unfold ends; rw [hp.out]; omega)
      clear hk hp
      go_wp2
      go_ret
      exact ⟨ret_i hG.out.symm, rfl⟩
set_option maxHeartbeats 1000000 in
theorem end_row (s : ByteArray) (i : Int) (w : World) (hs : s.size ≤ 1000000) (i0 : 0 ≤ i) (i1 : i < s.size) (hc : isLt (s.data.toList.getD i.toNat 0) = true) :
    Calls Try.prog 11 #[.string s, .int .i64 i] w fun e w' => e = .returned (.int .i64 (ends s.data.toList i.toNat)) ∧ w' = w := by
  have hbyte := byte_at s
  obtain ⟨l, hl⟩ : ∃ l, l = s.data.toList := ⟨_, rfl⟩
  have hz : l.length = s.size := by rw [hl]; simp
  rw [← hl] at hbyte hc ⊢
  clear hl
  have hb0 := hbyte i i0 i1
  have HC := hid hc
  have HY := hid hbyte
  clear hbyte
  have hil : i.toNat < l.length := by omega
  have hsk : Hid (skips (l.getD i.toNat 0) = false) := hid (by
    have h := hc
    generalize l.getD i.toNat 0 = c at *
    unfold skips isGap
    rw [byte_is, byte_is, byte_is, byte_is, byte_is]
    unfold isLt at h
    rw [decide_eq_true_eq] at h
    simp only [Bool.or_eq_false_iff, decide_eq_false_iff_not]
    show ¬ c.toNat = 35 ∧ ((¬ c.toNat = 32 ∧ ¬ c.toNat = 9) ∧ ¬ c.toNat = 10) ∧ ¬ c.toNat = 13
    omega)
  have hx0 := ltI_of (l.getD i.toNat 0)
  rw [hc] at hx0
  have h35 : ((l.getD i.toNat 0).toNat : Int) ≠ 35 := by
    have h := hc
    generalize l.getD i.toNat 0 = c at *
    unfold isLt at h
    rw [decide_eq_true_eq] at h
    omega
  clear hc
  obtain ⟨x, hx⟩ : ∃ x : Int, x = ((l.getD i.toNat 0).toNat : Int) := ⟨_, rfl⟩
  simp only [← hx] at hb0 hx0 h35
  clear hx
  have b35 : (x == 35) = false := beq_eq_false_iff_ne.2 h35
  have cX := fun W => inRow_any x W
  rw [hx0] at cX
  clear hx0 h35
  obtain ⟨N, hN⟩ : ∃ N : Int, N = (ends l i.toNat : Int) := ⟨_, rfl⟩
  rw [← hN]
  replace hN := hid hN
  go_enter Try.func11, Try.ntmps11
  go_wp2_with (go_at_call 23; refine (cX _).mono ?_; rintro e w' ⟨rfl, h'⟩; rw [h'])
  go_loop [23] (fun k => ∃ k' : Int, k = .int .i64 k' ∧ 0 ≤ k' ∧ k' ≤ s.size - i ∧ Hid (∀ j : Nat, i.toNat + 1 ≤ j → j < (i + k').toNat → isLt (l.getD j 0) = true)) (fun k => ((s.size : Int) - intOf k).toNat)
  case atStart => exact ⟨0, rfl, by omega, by omega, hid (fun j a b => by omega)⟩
  case round =>
    obtain ⟨k', rfl, k0, k1, hk⟩ := hrel
    clear cX
    by_cases hkl : k' < s.size - i
    · have hbk := HY.out (i + k') (by omega) (by omega)
      obtain ⟨d, hd⟩ : ∃ d, d = l.getD (i + k').toNat 0 := ⟨_, rfl⟩
      simp only [← hd] at hbk
      have hlk := ltI_of d
      obtain ⟨y, hy⟩ : ∃ y : Int, y = (d.toNat : Int) := ⟨_, rfl⟩
      rw [← hy] at hlk
      simp only [← hy] at hbk
      clear hy
      have cN := fun W => inRow_any y W
      rw [hlk] at cN
      clear hlk
      cases hL : isLt d
      · have hkk : 1 ≤ k' := by
          rcases Int.lt_or_le 0 k' with h | h
          · exact h
          · exfalso
            obtain rfl : k' = 0 := by omega
            rw [Int.add_zero] at hd
            rw [hd, HC.out] at hL
            cases hL
        have hp := hid (piece_row (k := (i + k').toNat) hil (by omega) (by omega) hsk.out hk.out (fun _ _ => by rw [← hd]; exact hL) (fun h => by rw [HC.out] at h; cases h))
        have hG : Hid (N = i + k') := hid (by rw [hN.out]; unfold ends; rw [hp.out]; omega)
        rw [hL] at cN
        clear hd hL hk hp
        go_wp2_with fail
        refine (cN _).mono ?_; rintro e w' ⟨rfl, h'⟩; rw [h']
        go_wp2
        go_ret
        exact ⟨ret_i hG.out.symm, rfl⟩
      · have hk2 : Hid (∀ j : Nat, i.toNat + 1 ≤ j → j < (i + (k' + 1)).toNat → isLt (l.getD j 0) = true) := hid (fun j a b => by
          rcases Nat.lt_or_ge j (i + k').toNat with h | h
          · exact hk.out j a h
          · rw [show j = (i + k').toNat by omega, ← hd]; exact hL)
        rw [hL] at cN
        clear hd hL hk
        go_wp2_with fail
        refine (cN _).mono ?_; rintro e w' ⟨rfl, h'⟩; rw [h']
        go_wp2
        go_round
        case rel => exact ⟨k' + 1, rfl, by omega, by omega, hk2⟩
        case measure => simp [intOf]; omega
    · obtain rfl : k' = s.size - i := by omega
      have hp := hid (piece_row (k := s.size) hil (by omega) (by omega) hsk.out (fun j a b => hk.out j a (by omega)) (fun _ h => by omega) (fun h => by rw [HC.out] at h; cases h))
      have hG : Hid (N = s.size) := hid (by rw [hN.out]; unfold ends; rw [hp.out]; omega)
      clear hk hp
      go_wp2
      go_ret
      exact ⟨ret_i hG.out.symm, rfl⟩
theorem end_lone (s : ByteArray) (i : Int) (w : World) (hs : s.size ≤ 1000000) (i0 : 0 ≤ i) (i1 : i < s.size) (h35 : s.data.toList.getD i.toNat 0 ≠ 35) (hc : isLt (s.data.toList.getD i.toNat 0) = false) :
    Calls Try.prog 11 #[.string s, .int .i64 i] w fun e w' => e = .returned (.int .i64 (ends s.data.toList i.toNat)) ∧ w' = w := by
  have hb0 := fun W => byte_at s i i0 i1 W
  have hz : s.data.toList.length = s.size := by simp
  have hx0 := ltI_of (s.data.toList.getD i.toNat 0)
  rw [hc] at hx0
  have hN := hid (piece_lone (by omega) h35 hc)
  have hx35 : ((s.data.toList.getD i.toNat 0).toNat : Int) ≠ 35 := fun h => h35 (UInt8.toNat_inj.1 (by show _ = 35; omega))
  obtain ⟨x, hx⟩ : ∃ x : Int, x = ((s.data.toList.getD i.toNat 0).toNat : Int) := ⟨_, rfl⟩
  rw [← hx] at hx0 hx35
  simp only [← hx] at hb0
  have b35 : (x == 35) = false := beq_eq_false_iff_ne.2 hx35
  have cX := fun W => inRow_any x W
  rw [hx0] at cX
  have hE : Hid ((ends s.data.toList i.toNat : Int) = i + 1) := hid (by rw [hN.out]; omega)
  clear hx0 hx35 hx hN hc h35
  generalize (ends s.data.toList i.toNat : Int) = N at *
  go_enter Try.func11, Try.ntmps11
  go_wp2_with (go_at_call 23; refine (cX _).mono ?_; rintro e w' ⟨rfl, h'⟩; rw [h'])
  go_ret
  exact ⟨ret_i hE.out.symm, rfl⟩
/-- Where the piece that begins at a place ends. -/
theorem end_any (s : ByteArray) (i : Int) (w : World) (hs : s.size ≤ 1000000) (i0 : 0 ≤ i) (i1 : i < s.size) :
    Calls Try.prog 11 #[.string s, .int .i64 i] w fun e w' => e = .returned (.int .i64 (ends s.data.toList i.toNat)) ∧ w' = w := by
  by_cases h35 : s.data.toList.getD i.toNat 0 = 35
  · exact end_note s i w hs i0 i1 h35
  · cases hc : isLt (s.data.toList.getD i.toNat 0)
    · exact end_lone s i w hs i0 i1 h35 hc
    · exact end_row s i w hs i0 i1 hc
end Go.Proofs.Ytcigholifpmdjaa.Le

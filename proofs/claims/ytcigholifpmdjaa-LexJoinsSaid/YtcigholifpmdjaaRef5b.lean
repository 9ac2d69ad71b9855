/- What the document's answers for layer 5 (poundageref05) come to: Of. -/
import Derived.Test.YtcigholifpmdjaaRef5
import Derived.Test.YtcigholifpmdjaaRef3f
namespace Go.Proofs.Ytcigholifpmdjaa.R5
open Go.RowKit P R4

theorem below_on {w W w' : World} (h : Below w.heap.size w W) (hb : Below W.heap.size W w') : Below w.heap.size w w' := h.trans (hb.mono h.size)
/-- Whether the reference's Parse of a day finds one. -/
theorem day_any (s : ByteArray) : ∃ v : Value, ∃ A B C : Int, v = .agg #[.int .i64 A, .int .i64 B, .int .i64 C] ∧
    ∀ w : World, Calls Try.prog 21 #[.string s] w fun e w' => e = .returned (.tuple #[v, .bool (reads s.data.toList)]) ∧ Below w.heap.size w w' := by
  by_cases hs : s.size = 10
  · cases hr : reads s.data.toList
    · exact ⟨_, 0, 0, 0, rfl, fun w => R3.parse_walk s _ w hs (hid fun _ => rfl) (hid fun k => by rw [hr] at k; cases k)⟩
    · exact ⟨_, _, _, _, rfl, fun w => R3.parse_walk s _ w hs (hid fun k => by rw [hr] at k; cases k) (hid fun _ => rfl)⟩
  · have hr : reads s.data.toList = false := by
      have : s.data.toList.length ≠ 10 := by simpa using hs
      unfold reads formed
      rw [decide_eq_false this]
      rfl
    rw [hr]
    exact ⟨_, 0, 0, 0, rfl, fun w => R3.parse_len s w hs⟩
theorem below_words {w w2 : World} (h : w2 = w.alloc (.cells wordCells 9)) : Below w.heap.size w w2 := by rw [h]; exact (Below.refl _ _).alloc (Nat.le_refl _) _
/-- Where kinds part. -/
theorem kd_sign {l : List UInt8} (h : l = [123] ∨ l = [125] ∨ l = [59]) : kd l = 5 := by unfold kd; rw [if_pos h]
theorem kd_none {l : List UInt8} (h : ¬ (l = [123] ∨ l = [125] ∨ l = [59])) (h2 : l = [] ∨ l.all isLt = false) : kd l = 0 := by unfold kd; rw [if_neg h, if_pos h2]
theorem kd_word {l : List UInt8} (h : ¬ (l = [123] ∨ l = [125] ∨ l = [59])) (h2 : ¬ (l = [] ∨ l.all isLt = false)) (h3 : words.contains l = true) : kd l = 2 := by unfold kd; rw [if_neg h, if_neg h2, if_pos h3]
theorem kd_rest {l : List UInt8} (h : ¬ (l = [123] ∨ l = [125] ∨ l = [59])) (h2 : ¬ (l = [] ∨ l.all isLt = false)) (h3 : words.contains l = false) :
    kd l = if plain l && !isDg (l.getD 0 0) then 1 else if fm l ≠ 0 then 3 else if reads l then 4 else 0 := by unfold kd; rw [if_neg h, if_neg h2, if_neg (by rw [h3]; decide)]
set_option maxHeartbeats 4000000 in
theorem of_any (s : ByteArray) (w : World) (hs : s.size ≤ 1000000) : Calls Try.prog 10 #[.string s] w fun e w' => e = .returned (.int .i64 (kd s.data.toList)) ∧ Below w.heap.size w w' := by
  have cD := fun W => R4.of_any s W (by omega)
  obtain ⟨dv, A, B, C, hdv, cP⟩ := day_any s
  subst hdv
  obtain ⟨l, hl⟩ : ∃ l, l = s.data.toList := ⟨_, rfl⟩
  have hbyte := byte_at s
  have hz : l.length = s.size := by rw [hl]; simp
  have htl : s.toList = l := by rw [Lib.toList_data, hl]
  rw [← hl]
  rw [← hl] at hbyte
  simp only [← hl] at cD cP
  clear hl
  by_cases hsg : l = [123] ∨ l = [125] ∨ l = [59]
  · have hk := hid (kd_sign hsg)
    have hc : (l == [123]) = true ∨ ((l == [123]) = false ∧ (l == [125]) = true) ∨ ((l == [123]) = false ∧ (l == [125]) = false ∧ (l == [59]) = true) := by
      rcases hsg with h | h | h <;> rw [h] <;> decide
    clear hsg hbyte cD cP
    go_enter Try.func10, Try.ntmps10
    rcases hc with h | ⟨h, h1⟩ | ⟨h, h1, h2⟩
    all_goals
      go_wp2
      go_ret
      exact ⟨ret_i (by rw [hk.out]; rfl), Below.refl _ _⟩
  · have t1 : (l == [123]) = false := beq_eq_false_iff_ne.2 (fun e => hsg (.inl e))
    have t2 : (l == [125]) = false := beq_eq_false_iff_ne.2 (fun e => hsg (.inr (.inl e)))
    have t3 : (l == [59]) = false := beq_eq_false_iff_ne.2 (fun e => hsg (.inr (.inr e)))
    have HS := hid hsg
    clear hsg
    by_cases hn : l = []
    · have hk := hid (kd_none HS.out (.inl hn))
      have t4 : (l == []) = true := by rw [hn]; rfl
      clear hn hbyte cD cP
      go_enter Try.func10, Try.ntmps10
      go_wp2
      go_ret
      exact ⟨ret_i (by rw [hk.out]; rfl), Below.refl _ _⟩
    · have t4 : (l == []) = false := beq_eq_false_iff_ne.2 hn
      have hlp : 0 < l.length := List.length_pos_iff.2 hn
      have HN := hid hn
      clear hn
      go_enter Try.func10, Try.ntmps10
      go_wp2
      go_loop [3, 4] (fun p i => ∃ (p' : Bool) (i' : Int), p = .bool p' ∧ i = .int .i64 i' ∧ 0 ≤ i' ∧ i' ≤ s.size ∧ Hid (p' = plain (l.take i'.toNat) ∧ (l.take i'.toNat).all isLt = true)) (fun _ i => ((s.size : Int) - intOf i).toNat)
      case atStart => exact ⟨true, 0, rfl, rfl, by omega, by omega, hid ⟨rfl, rfl⟩⟩
      case round =>
        obtain ⟨p', i', rfl, rfl, i0, i1, hst⟩ := hrel
        by_cases hi : i' < s.size
        · have hil : i'.toNat < l.length := by omega
          have hb := hbyte i' i0 hi
          have e1 : (i' + 1).toNat = i'.toNat + 1 := by omega
          obtain ⟨hp, ha⟩ := hst.out
          have hlt := ltI_of (l.getD i'.toNat 0)
          have hts := take_snoc hil
          have bad : isLt (l.getD i'.toNat 0) = false → Hid (kd l = 0) := fun h => hid (kd_none HS.out (.inr (by
            rw [Bool.eq_false_iff]
            intro k
            rw [List.all_eq_true] at k
            rw [k _ (mem_getD hil)] at h
            cases h)))
          have nxt : isLt (l.getD i'.toNat 0) = true → Hid ((p' && (!(l.getD i'.toNat 0 == 46) && !(l.getD i'.toNat 0 == 45))) = plain (l.take (i' + 1).toNat) ∧ (l.take (i' + 1).toNat).all isLt = true) := fun h => hid ⟨by
            rw [e1, hts, hp]
            unfold plain
            rw [List.all_append]
            simp, by rw [e1, hts, List.all_append, ha]; simpa using h⟩
          have h46 : ((l.getD i'.toNat 0).toNat : Int) = 46 ↔ l.getD i'.toNat 0 = 46 := by
            constructor
            · intro h; exact UInt8.toNat_inj.1 (by show _ = 46; omega)
            · intro h; rw [h]; rfl
          have h45 : ((l.getD i'.toNat 0).toNat : Int) = 45 ↔ l.getD i'.toNat 0 = 45 := by
            constructor
            · intro h; exact UInt8.toNat_inj.1 (by show _ = 45; omega)
            · intro h; rw [h]; rfl
          obtain ⟨c, hc⟩ : ∃ c, c = l.getD i'.toNat 0 := ⟨_, rfl⟩
          rw [← hc] at hlt bad nxt h46 h45
          simp only [← hc] at hb
          obtain ⟨z, hz'⟩ : ∃ z : Int, z = (c.toNat : Int) := ⟨_, rfl⟩
          rw [← hz'] at hlt h46 h45
          simp only [← hz'] at hb
          clear hst hp ha hts hc hz' hbyte e1
          cases hL : isLt c
          · have hG := bad hL
            rw [hL] at hlt
            clear bad nxt h46 h45
            go_wp2_with (go_at_call 13; refine (letter_any _ _).mono ?_; rintro e w' ⟨rfl, h'⟩; rw [h'])
            go_ret
            exact ⟨ret_i (by rw [hG.out]; rfl), Below.refl _ _⟩
          · have H := nxt hL
            rw [hL] at hlt
            have hzz : (p' = false) ∨ (p' = true ∧ z = 46) ∨ (p' = true ∧ z ≠ 46 ∧ z = 45) ∨ (p' = true ∧ z ≠ 46 ∧ z ≠ 45) := by
              cases p' <;> simp <;> omega
            have s46 : (c == 46) = (z == 46) := by rw [Bool.eq_iff_iff, beq_iff_eq, beq_iff_eq]; exact h46.symm
            have s45 : (c == 45) = (z == 45) := by rw [Bool.eq_iff_iff, beq_iff_eq, beq_iff_eq]; exact h45.symm
            rw [s46, s45] at H
            clear bad nxt h46 h45 s46 s45 hL
            rcases hzz with rfl | ⟨rfl, hz1⟩ | ⟨rfl, hz1, hz2⟩ | ⟨rfl, hz1, hz2⟩
            · go_wp2_with (go_at_call 13; refine (letter_any _ _).mono ?_; rintro e w' ⟨rfl, h'⟩; rw [h'])
              go_round
              case rel => exact ⟨_, i' + 1, rfl, rfl, by omega, by omega, H⟩
              case measure => simp [intOf]; omega
            · have b1 : (z != 46) = false := by rw [hz1]; rfl
              rw [show (z == 46) = true by rw [hz1]; rfl] at H
              clear hz1
              go_wp2_with (go_at_call 13; refine (letter_any _ _).mono ?_; rintro e w' ⟨rfl, h'⟩; rw [h'])
              go_round
              case rel => exact ⟨_, i' + 1, rfl, rfl, by omega, by omega, H⟩
              case measure => simp [intOf]; omega
            · have b1 : (z != 46) = true := bne_iff_ne.2 hz1
              have b2 : (z != 45) = false := by rw [hz2]; rfl
              rw [beq_eq_false_iff_ne.2 hz1, show (z == 45) = true by rw [hz2]; rfl] at H
              clear hz1 hz2
              go_wp2_with (go_at_call 13; refine (letter_any _ _).mono ?_; rintro e w' ⟨rfl, h'⟩; rw [h'])
              go_round
              case rel => exact ⟨_, i' + 1, rfl, rfl, by omega, by omega, H⟩
              case measure => simp [intOf]; omega
            · have b1 : (z != 46) = true := bne_iff_ne.2 hz1
              have b2 : (z != 45) = true := bne_iff_ne.2 hz2
              rw [beq_eq_false_iff_ne.2 hz1, beq_eq_false_iff_ne.2 hz2] at H
              clear hz1 hz2
              go_wp2_with (go_at_call 13; refine (letter_any _ _).mono ?_; rintro e w' ⟨rfl, h'⟩; rw [h'])
              go_round
              case rel => exact ⟨_, i' + 1, rfl, rfl, by omega, by omega, H⟩
              case measure => simp [intOf]; omega
        · obtain rfl : i' = s.size := by omega
          obtain ⟨hp, ha⟩ := hst.out
          rw [show ((s.size : Int)).toNat = l.length by omega, List.take_length] at hp ha
          have hnn : ¬ (l = [] ∨ l.all isLt = false) := by rw [ha]; rintro (k | k); exact HN.out k; cases k
          have wrd : words.contains l = true → Hid (kd l = 2) := fun h => hid (kd_word HS.out hnn h)
          have rst : words.contains l = false → Hid (kd l = if plain l && !isDg (l.getD 0 0) then 1 else if fm l ≠ 0 then 3 else if reads l then 4 else 0) := fun h => hid (kd_rest HS.out hnn h)
          have x0 := hbyte 0 (by omega) (by omega)
          have hd0 := dgI_of (l.getD 0 0)
          obtain ⟨x, hx⟩ : ∃ x : Int, x = ((l.getD (0 : Int).toNat 0).toNat : Int) := ⟨_, rfl⟩
          simp only [← hx] at x0
          rw [show ((l.getD 0 0).toNat : Int) = x from hx.symm] at hd0
          obtain ⟨F, hF⟩ : ∃ F : Int, F = (fm l : Int) := ⟨_, rfl⟩
          simp only [← hF] at cD
          have HP := hid hp
          clear hst hbyte hx hp
          go_wp2_with (go_at_call 19; refine (words_any _).mono ?_; rintro e w2 ⟨rfl, h2⟩; have hcell := word_cell w; simp only [← h2] at hcell; have B2 := below_words h2; clear h2)
          go_loop [47] (fun i => ∃ j' : Int, i = .int .i64 j' ∧ 0 ≤ j' ∧ j' ≤ 26 ∧ Hid (∀ j, j < j'.toNat → words.getD j [] ≠ l)) (fun i => ((26 : Int) - intOf i).toNat)
          case atStart => exact ⟨0, rfl, by omega, by omega, hid (fun j hj => by simp at hj)⟩
          case round =>
            obtain ⟨j', rfl, j0, j1, hj⟩ := hrel
            by_cases hlt : j' < 26
            · have hc := hcell j'.toNat (by omega)
              obtain ⟨X, hX⟩ : ∃ X : ByteArray, X = ⟨(words.getD j'.toNat []).toArray⟩ := ⟨_, rfl⟩
              rw [← hX] at hc
              clear hcell
              obtain ⟨wl, hwl⟩ : ∃ wl, wl = words.getD j'.toNat [] := ⟨_, rfl⟩
              have hXl : X.toList = wl := by rw [Lib.toList_data, hX, hwl]
              by_cases he : wl = l
              · have hmem : words.contains l = true := by
                  rw [List.contains_iff_mem, ← he, hwl, List.getD_eq_getElem?_getD, List.getElem?_eq_getElem (show j'.toNat < words.length by show _ < 26; omega)]
                  exact List.getElem_mem _
                have hG := wrd hmem
                have b1 : (wl == l) = true := by rw [he]; simp
                clear hX hwl he hj wrd rst
                go_wp2
                go_ret
                exact ⟨ret_i (by rw [hG.out]; rfl), B2⟩
              · have b1 : (wl == l) = false := beq_eq_false_iff_ne.2 he
                have H : Hid (∀ j, j < (j' + 1).toNat → words.getD j [] ≠ l) := hid (fun j hjj => by
                  rcases Nat.lt_or_ge j j'.toNat with a | a
                  · exact hj.out j a
                  · rw [show j = j'.toNat by omega, ← hwl]; exact he)
                clear hX hwl he hj
                go_wp2
                go_round
                case rel => exact ⟨j' + 1, rfl, by omega, by omega, H⟩
                case measure => simp [intOf]; omega
            · obtain rfl : j' = 26 := by omega
              have hno : words.contains l = false := by
                rw [Bool.eq_false_iff]
                intro k
                rw [List.contains_iff_mem] at k
                obtain ⟨i, hi1, hi2⟩ := List.getElem_of_mem k
                refine hj.out i hi1 ?_
                rw [List.getD_eq_getElem?_getD, List.getElem?_eq_getElem hi1]
                exact hi2
              have hR := (rst hno).out
              rw [← HP.out, ← hd0] at hR
              have hR1 : fm l ≠ 0 ↔ F ≠ 0 := by omega
              have hF0 : 0 ≤ F := by omega
              clear hcell wrd rst hj hno hnn hF
              have fin : ∀ n : Nat, kd l = n → Hid (((kd l : Nat) : Int) = (n : Int)) := fun n h => hid (by rw [h])
              by_cases hdx : dgI x = true
              · rw [hdx] at hR
                simp only [Bool.not_true, Bool.and_false, Bool.false_eq_true, if_false] at hR
                have hx48 : 48 ≤ x := by unfold dgI at hdx; rw [decide_eq_true_eq] at hdx; omega
                have hx57 : x ≤ 57 := by unfold dgI at hdx; rw [decide_eq_true_eq] at hdx; omega
                by_cases hf : F = 0
                · rw [if_neg (by omega)] at hR
                  subst hf
                  cases hrd : reads l
                  · rw [hrd] at hR cP
                    have hG := fin 0 hR
                    clear hR hd0 HP fin hdx
                    cases p'
                    all_goals
                      go_wp2_with (first
                        | (go_at_call 20; refine (cD _).mono ?_; rintro e w' ⟨rfl, h'⟩; rw [h'])
                        | (go_at_call 21; refine (cP _).mono ?_; rintro e w3 ⟨rfl, b3⟩; have B3 := below_on B2 b3))
                      all_goals
                        go_ret
                        exact ⟨ret_i hG.out.symm, B3.alloc B3.size _⟩
                  · rw [hrd] at hR cP
                    have hG := fin 4 hR
                    clear hR hd0 HP fin hdx
                    cases p'
                    all_goals
                      go_wp2_with (first
                        | (go_at_call 20; refine (cD _).mono ?_; rintro e w' ⟨rfl, h'⟩; rw [h'])
                        | (go_at_call 21; refine (cP _).mono ?_; rintro e w3 ⟨rfl, b3⟩; have B3 := below_on B2 b3))
                      all_goals
                        go_ret
                        exact ⟨ret_i hG.out.symm, B3.alloc B3.size _⟩
                · have hFp : 0 < F := by omega
                  rw [if_pos (by omega)] at hR
                  have hG := fin 3 hR
                  clear hR hd0 HP fin hdx cP
                  cases p'
                  all_goals
                    go_wp2_with (go_at_call 20; refine (cD _).mono ?_; rintro e w' ⟨rfl, h'⟩; rw [h'])
                    all_goals
                      go_ret
                      exact ⟨ret_i hG.out.symm, B2⟩
              · have hdx' : dgI x = false := by simpa using hdx
                have hxr : x < 48 ∨ (¬ x < 48 ∧ 57 < x) := by unfold dgI at hdx'; rw [decide_eq_false_iff_not] at hdx'; omega
                rw [hdx'] at hR
                cases p'
                · simp only [Bool.false_and, Bool.false_eq_true, if_false] at hR
                  by_cases hf : F = 0
                  · rw [if_neg (by omega)] at hR
                    subst hf
                    cases hrd : reads l
                    all_goals
                      rw [hrd] at hR cP
                      have hG := fin _ hR
                      clear hR hd0 HP fin hdx hdx'
                      go_wp2_with (first
                        | (go_at_call 20; refine (cD _).mono ?_; rintro e w' ⟨rfl, h'⟩; rw [h'])
                        | (go_at_call 21; refine (cP _).mono ?_; rintro e w3 ⟨rfl, b3⟩; have B3 := below_on B2 b3))
                      all_goals
                        go_ret
                        exact ⟨ret_i hG.out.symm, B3.alloc B3.size _⟩
                  · have hFp : 0 < F := by omega
                    rw [if_pos (by omega)] at hR
                    have hG := fin 3 hR
                    clear hR hd0 HP fin hdx hdx' cP
                    go_wp2_with (go_at_call 20; refine (cD _).mono ?_; rintro e w' ⟨rfl, h'⟩; rw [h'])
                    all_goals
                      go_ret
                      exact ⟨ret_i hG.out.symm, B2⟩
                · have hG := fin 1 hR
                  clear hR hd0 HP fin hdx hdx' cP cD
                  rcases hxr with h | ⟨h, h2⟩
                  all_goals
                    go_wp2
                    all_goals
                      go_ret
                      exact ⟨ret_i hG.out.symm, B2⟩
end Go.Proofs.Ytcigholifpmdjaa.R5

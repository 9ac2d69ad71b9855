/- What the document's answers for layer 5 (poundageref05) come to: Of. -/
import Derived.Test.YtnhhhnngocdagaaJRef3f
import Derived.Test.YtnhhhnngocdagaaJLexN
import Derived.Test.YtnhhhnngocdagaaJRef2b
namespace Go.Proofs.Ytnhhhnngocdagaa.R5
open Go.RowKit P R4
theorem below_on {w W w' : World} (h : Below w.heap.size w W) (hb : Below W.heap.size W w') : Below w.heap.size w w' := h.trans (hb.mono h.size)
/-- Whether the reference's Parse of a day finds one. -/
theorem day_any (s : ByteArray) : ∃ v : Value, ∃ A B C : Int, v = .agg #[.int .i64 A, .int .i64 B, .int .i64 C] ∧
    ∀ w : World, Calls Try.prog 50 #[.string s] w fun e w' => e = .returned (.tuple #[v, .bool (reads s.data.toList)]) ∧ Below w.heap.size w w' := by
  by_cases hs : s.size = 10
  · cases hr : reads s.data.toList
    · exact ⟨_, 0, 0, 0, rfl, fun w => R3.parse_walk s _ w hs (hid fun _ => rfl) (hid fun k => by rw [hr] at k; cases k)⟩
    · exact ⟨_, _, _, _, rfl, fun w => R3.parse_walk s _ w hs (hid fun k => by rw [hr] at k; cases k) (hid fun _ => rfl)⟩
  · have hr : reads s.data.toList = false := by
      have : s.data.toList.length ≠ 10 := by simpa using hs
      unfold reads formed
      rw [decide_eq_false this]
      rfl
    rw [hr]
    exact ⟨_, 0, 0, 0, rfl, fun w => R3.parse_len s w hs⟩
theorem below_words {w w2 : World} (h : w2 = w.alloc (.cells wordCells 9)) : Below w.heap.size w w2 := by rw [h]; exact (Below.refl _ _).alloc (Nat.le_refl _) _
/-- Where kinds part. -/
theorem kd_sign {l : List UInt8} (h : l = [123] ∨ l = [125] ∨ l = [59]) : kd l = 5 := by unfold kd; rw [if_pos h]
theorem kd_none {l : List UInt8} (h : ¬ (l = [123] ∨ l = [125] ∨ l = [59])) (h2 : l = [] ∨ l.all isLt = false) : kd l = 0 := by unfold kd; rw [if_neg h, if_pos h2]
theorem kd_word {l : List UInt8} (h : ¬ (l = [123] ∨ l = [125] ∨ l = [59])) (h2 : ¬ (l = [] ∨ l.all isLt = false)) (h3 : words.contains l = true) : kd l = 2 := by unfold kd; rw [if_neg h, if_neg h2, if_pos h3]
theorem kd_rest {l : List UInt8} (h : ¬ (l = [123] ∨ l = [125] ∨ l = [59])) (h2 : ¬ (l = [] ∨ l.all isLt = false)) (h3 : words.contains l = false) :
    kd l = if plain l && !isDg (l.getD 0 0) then 1 else if fm l ≠ 0 then 3 else if reads l then 4 else 0 := by unfold kd; rw [if_neg h, if_neg h2, if_neg (by rw [h3]; decide)]
set_option maxHeartbeats 4000000 in
theorem of_any (s : ByteArray) (w : World) (hs : s.size ≤ 1000000) : Calls Try.prog 48 #[.string s] w fun e w' => e = .returned (.int .i64 (kd s.data.toList)) ∧ Below w.heap.size w w' := by
  have cD := fun W => R4.of_any s W (by omega)
  obtain ⟨dv, A, B, C, hdv, cP⟩ := day_any s
  subst hdv
  obtain ⟨l, hl⟩ : ∃ l, l = s.data.toList := ⟨_, rfl⟩
  have hbyte := R4.byte_at s
  have hz : l.length = s.size := by rw [hl]; simp
  have htl : s.toList = l := by rw [Lib.toList_data, hl]
  rw [← hl]
  rw [← hl] at hbyte
  simp only [← hl] at cD cP
  clear hl
  by_cases hsg : l = [123] ∨ l = [125] ∨ l = [59]
  · have hk := hid (kd_sign hsg)
    have hc : (l == [123]) = true ∨ ((l == [123]) = false ∧ (l == [125]) = true) ∨ ((l == [123]) = false ∧ (l == [125]) = false ∧ (l == [59]) = true) := by
      rcases hsg with h | h | h <;> rw [h] <;> decide
    clear hsg hbyte cD cP
    go_enter Try.func48, Try.ntmps48
    rcases hc with h | ⟨h, h1⟩ | ⟨h, h1, h2⟩
    all_goals
      go_wp2
      go_ret
      exact ⟨ret_i (by rw [hk.out]; rfl), Below.refl _ _⟩
  · have t1 : (l == [123]) = false := beq_eq_false_iff_ne.2 (fun e => hsg (.inl e))
    have t2 : (l == [125]) = false := beq_eq_false_iff_ne.2 (fun e => hsg (.inr (.inl e)))
    have t3 : (l == [59]) = false := beq_eq_false_iff_ne.2 (fun e => hsg (.inr (.inr e)))
    have HS := hid hsg
    clear hsg
    by_cases hn : l = []
    · have hk := hid (kd_none HS.out (.inl hn))
      have t4 : (l == []) = true := by rw [hn]; rfl
      clear hn hbyte cD cP
      go_enter Try.func48, Try.ntmps48
      go_wp2
      go_ret
      exact ⟨ret_i (by rw [hk.out]; rfl), Below.refl _ _⟩
    · have t4 : (l == []) = false := beq_eq_false_iff_ne.2 hn
      have hlp : 0 < l.length := List.length_pos_iff.2 hn
      have HN := hid hn
      clear hn
      go_enter Try.func48, Try.ntmps48
      go_wp2
      go_loop [3, 4] (fun p i => ∃ (p' : Bool) (i' : Int), p = .bool p' ∧ i = .int .i64 i' ∧ 0 ≤ i' ∧ i' ≤ s.size ∧ Hid (p' = plain (l.take i'.toNat) ∧ (l.take i'.toNat).all isLt = true)) (fun _ i => ((s.size : Int) - intOf i).toNat)
      case atStart => exact ⟨true, 0, rfl, rfl, by omega, by omega, hid ⟨rfl, rfl⟩⟩
      case round =>
        obtain ⟨p', i', rfl, rfl, i0, i1, hst⟩ := hrel
        by_cases hi : i' < s.size
        · have hil : i'.toNat < l.length := by omega
          have hb := hbyte i' i0 hi
          have e1 : (i' + 1).toNat = i'.toNat + 1 := by omega
          obtain ⟨hp, ha⟩ := hst.out
          have hlt := ltI_of (l.getD i'.toNat 0)
          have hts := take_snoc hil
          have bad : isLt (l.getD i'.toNat 0) = false → Hid (kd l = 0) := fun h => hid (kd_none HS.out (.inr (by
            rw [Bool.eq_false_iff]
            intro k
            rw [List.all_eq_true] at k
            rw [k _ (mem_getD hil)] at h
            cases h)))
          have nxt : isLt (l.getD i'.toNat 0) = true → Hid ((p' && (!(l.getD i'.toNat 0 == 46) && !(l.getD i'.toNat 0 == 45))) = plain (l.take (i' + 1).toNat) ∧ (l.take (i' + 1).toNat).all isLt = true) := fun h => hid ⟨by
            rw [e1, hts, hp]
            unfold plain
            rw [List.all_append]
            simp, by rw [e1, hts, List.all_append, ha]; simpa using h⟩
          have h46 : ((l.getD i'.toNat 0).toNat : Int) = 46 ↔ l.getD i'.toNat 0 = 46 := by
            constructor
            · intro h; exact UInt8.toNat_inj.1 (by show _ = 46; omega)
            · intro h; rw [h]; rfl
          have h45 : ((l.getD i'.toNat 0).toNat : Int) = 45 ↔ l.getD i'.toNat 0 = 45 := by
            constructor
            · intro h; exact UInt8.toNat_inj.1 (by show _ = 45; omega)
            · intro h; rw [h]; rfl
          obtain ⟨c, hc⟩ : ∃ c, c = l.getD i'.toNat 0 := ⟨_, rfl⟩
          rw [← hc] at hlt bad nxt h46 h45
          simp only [← hc] at hb
          obtain ⟨z, hz'⟩ : ∃ z : Int, z = (c.toNat : Int) := ⟨_, rfl⟩
          rw [← hz'] at hlt h46 h45
          simp only [← hz'] at hb
          clear hst hp ha hts hc hz' hbyte e1
          cases hL : isLt c
          · have hG := bad hL
            rw [hL] at hlt
            clear bad nxt h46 h45
            go_wp2_with (go_at_call 47; refine (letter_any _ _).mono ?_; rintro e w' ⟨rfl, h'⟩; rw [h'])
            go_ret
            exact ⟨ret_i (by rw [hG.out]; rfl), Below.refl _ _⟩
          · have H := nxt hL
            rw [hL] at hlt
            have hzz : (p' = false) ∨ (p' = true ∧ z = 46) ∨ (p' = true ∧ z ≠ 46 ∧ z = 45) ∨ (p' = true ∧ z ≠ 46 ∧ z ≠ 45) := by
              cases p' <;> simp <;> omega
            have s46 : (c == 46) = (z == 46) := by rw [Bool.eq_iff_iff, beq_iff_eq, beq_iff_eq]; exact h46.symm
            have s45 : (c == 45) = (z == 45) := by rw [Bool.eq_iff_iff, beq_iff_eq, beq_iff_eq]; exact h45.symm
            rw [s46, s45] at H
            clear bad nxt h46 h45 s46 s45 hL
            rcases hzz with rfl | ⟨rfl, hz1⟩ | ⟨rfl, hz1, hz2⟩ | ⟨rfl, hz1, hz2⟩
            · go_wp2_with (go_at_call 47; refine (letter_any _ _).mono ?_; rintro e w' ⟨rfl, h'⟩; rw [h'])
              go_round
              case rel => exact ⟨_, i' + 1, rfl, rfl, by omega, by omega, H⟩
              case measure => simp [intOf]; omega
            · have b1 : (z != 46) = false := by rw [hz1]; rfl
              rw [show (z == 46) = true by rw [hz1]; rfl] at H
              clear hz1
              go_wp2_with (go_at_call 47; refine (letter_any _ _).mono ?_; rintro e w' ⟨rfl, h'⟩; rw [h'])
              go_round
              case rel => exact ⟨_, i' + 1, rfl, rfl, by omega, by omega, H⟩
              case measure => simp [intOf]; omega
            · have b1 : (z != 46) = true := bne_iff_ne.2 hz1
              have b2 : (z != 45) = false := by rw [hz2]; rfl
              rw [beq_eq_false_iff_ne.2 hz1, show (z == 45) = true by rw [hz2]; rfl] at H
              clear hz1 hz2
              go_wp2_with (go_at_call 47; refine (letter_any _ _).mono ?_; rintro e w' ⟨rfl, h'⟩; rw [h'])
              go_round
              case rel => exact ⟨_, i' + 1, rfl, rfl, by omega, by omega, H⟩
              case measure => simp [intOf]; omega
            · have b1 : (z != 46) = true := bne_iff_ne.2 hz1
              have b2 : (z != 45) = true := bne_iff_ne.2 hz2
              rw [beq_eq_false_iff_ne.2 hz1, beq_eq_false_iff_ne.2 hz2] at H
              clear hz1 hz2
              go_wp2_with (go_at_call 47; refine (letter_any _ _).mono ?_; rintro e w' ⟨rfl, h'⟩; rw [h'])
              go_round
              case rel => exact ⟨_, i' + 1, rfl, rfl, by omega, by omega, H⟩
              case measure => simp [intOf]; omega
        · obtain rfl : i' = s.size := by omega
          obtain ⟨hp, ha⟩ := hst.out
          rw [show ((s.size : Int)).toNat = l.length by omega, List.take_length] at hp ha
          have hnn : ¬ (l = [] ∨ l.all isLt = false) := by rw [ha]; rintro (k | k); exact HN.out k; cases k
          have wrd : words.contains l = true → Hid (kd l = 2) := fun h => hid (kd_word HS.out hnn h)
          have rst : words.contains l = false → Hid (kd l = if plain l && !isDg (l.getD 0 0) then 1 else if fm l ≠ 0 then 3 else if reads l then 4 else 0) := fun h => hid (kd_rest HS.out hnn h)
          have x0 := hbyte 0 (by omega) (by omega)
          have hd0 := dgI_of (l.getD 0 0)
          obtain ⟨x, hx⟩ : ∃ x : Int, x = ((l.getD (0 : Int).toNat 0).toNat : Int) := ⟨_, rfl⟩
          simp only [← hx] at x0
          rw [show ((l.getD 0 0).toNat : Int) = x from hx.symm] at hd0
          obtain ⟨F, hF⟩ : ∃ F : Int, F = (fm l : Int) := ⟨_, rfl⟩
          simp only [← hF] at cD
          have HP := hid hp
          clear hst hbyte hx hp
          go_wp2_with (go_at_call 65; refine (words_any _).mono ?_; rintro e w2 ⟨rfl, h2⟩; have hcell := word_cell w; simp only [← h2] at hcell; have B2 := below_words h2; clear h2)
          go_loop [47] (fun i => ∃ j' : Int, i = .int .i64 j' ∧ 0 ≤ j' ∧ j' ≤ 26 ∧ Hid (∀ j, j < j'.toNat → words.getD j [] ≠ l)) (fun i => ((26 : Int) - intOf i).toNat)
          case atStart => exact ⟨0, rfl, by omega, by omega, hid (fun j hj => by simp at hj)⟩
          case round =>
            obtain ⟨j', rfl, j0, j1, hj⟩ := hrel
            by_cases hlt : j' < 26
            · have hc := hcell j'.toNat (by omega)
              obtain ⟨X, hX⟩ : ∃ X : ByteArray, X = ⟨(words.getD j'.toNat []).toArray⟩ := ⟨_, rfl⟩
              rw [← hX] at hc
              clear hcell
              obtain ⟨wl, hwl⟩ : ∃ wl, wl = words.getD j'.toNat [] := ⟨_, rfl⟩
              have hXl : X.toList = wl := by rw [Lib.toList_data, hX, hwl]
              by_cases he : wl = l
              · have hmem : words.contains l = true := by
                  rw [List.contains_iff_mem, ← he, hwl, List.getD_eq_getElem?_getD, List.getElem?_eq_getElem (show j'.toNat < words.length by show _ < 26; omega)]
                  exact List.getElem_mem _
                have hG := wrd hmem
                have b1 : (wl == l) = true := by rw [he]; simp
                clear hX hwl he hj wrd rst
                go_wp2
                go_ret
                exact ⟨ret_i (by rw [hG.out]; rfl), B2⟩
              · have b1 : (wl == l) = false := beq_eq_false_iff_ne.2 he
                have H : Hid (∀ j, j < (j' + 1).toNat → words.getD j [] ≠ l) := hid (fun j hjj => by
                  rcases Nat.lt_or_ge j j'.toNat with a | a
                  · exact hj.out j a
                  · rw [show j = j'.toNat by omega, ← hwl]; exact he)
                clear hX hwl he hj
                go_wp2
                go_round
                case rel => exact ⟨j' + 1, rfl, by omega, by omega, H⟩
                case measure => simp [intOf]; omega
            · obtain rfl : j' = 26 := by omega
              have hno : words.contains l = false := by
                rw [Bool.eq_false_iff]
                intro k
                rw [List.contains_iff_mem] at k
                obtain ⟨i, hi1, hi2⟩ := List.getElem_of_mem k
                refine hj.out i hi1 ?_
                rw [List.getD_eq_getElem?_getD, List.getElem?_eq_getElem hi1]
                exact hi2
              have hR := (rst hno).out
              rw [← HP.out, ← hd0] at hR
              have hR1 : fm l ≠ 0 ↔ F ≠ 0 := by omega
              have hF0 : 0 ≤ F := by omega
              clear hcell wrd rst hj hno hnn hF
              have fin : ∀ n : Nat, kd l = n → Hid (((kd l : Nat) : Int) = (n : Int)) := fun n h => hid (by rw [h])
              by_cases hdx : dgI x = true
              · rw [hdx] at hR
                simp only [Bool.not_true, Bool.and_false, Bool.false_eq_true, if_false] at hR
                have hx48 : 48 ≤ x := by unfold dgI at hdx; rw [decide_eq_true_eq] at hdx; omega
                have hx57 : x ≤ 57 := by unfold dgI at hdx; rw [decide_eq_true_eq] at hdx; omega
                by_cases hf : F = 0
                · rw [if_neg (by omega)] at hR
                  subst hf
                  cases hrd : reads l
                  · rw [hrd] at hR cP
                    have hG := fin 0 hR
                    clear hR hd0 HP fin hdx
                    cases p'
                    all_goals
                      go_wp2_with (first
                        | (go_at_call 66; refine (cD _).mono ?_; rintro e w' ⟨rfl, h'⟩; rw [h'])
                        | (go_at_call 50; refine (cP _).mono ?_; rintro e w3 ⟨rfl, b3⟩; have B3 := below_on B2 b3))
                      all_goals
                        go_ret
                        exact ⟨ret_i hG.out.symm, B3.alloc B3.size _⟩
                  · rw [hrd] at hR cP
                    have hG := fin 4 hR
                    clear hR hd0 HP fin hdx
                    cases p'
                    all_goals
                      go_wp2_with (first
                        | (go_at_call 66; refine (cD _).mono ?_; rintro e w' ⟨rfl, h'⟩; rw [h'])
                        | (go_at_call 50; refine (cP _).mono ?_; rintro e w3 ⟨rfl, b3⟩; have B3 := below_on B2 b3))
                      all_goals
                        go_ret
                        exact ⟨ret_i hG.out.symm, B3.alloc B3.size _⟩
                · have hFp : 0 < F := by omega
                  rw [if_pos (by omega)] at hR
                  have hG := fin 3 hR
                  clear hR hd0 HP fin hdx cP
                  cases p'
                  all_goals
                    go_wp2_with (go_at_call 66; refine (cD _).mono ?_; rintro e w' ⟨rfl, h'⟩; rw [h'])
                    all_goals
                      go_ret
                      exact ⟨ret_i hG.out.symm, B2⟩
              · have hdx' : dgI x = false := by simpa using hdx
                have hxr : x < 48 ∨ (¬ x < 48 ∧ 57 < x) := by unfold dgI at hdx'; rw [decide_eq_false_iff_not] at hdx'; omega
                rw [hdx'] at hR
                cases p'
                · simp only [Bool.false_and, Bool.false_eq_true, if_false] at hR
                  by_cases hf : F = 0
                  · rw [if_neg (by omega)] at hR
                    subst hf
                    cases hrd : reads l
                    all_goals
                      rw [hrd] at hR cP
                      have hG := fin _ hR
                      clear hR hd0 HP fin hdx hdx'
                      go_wp2_with (first
                        | (go_at_call 66; refine (cD _).mono ?_; rintro e w' ⟨rfl, h'⟩; rw [h'])
                        | (go_at_call 50; refine (cP _).mono ?_; rintro e w3 ⟨rfl, b3⟩; have B3 := below_on B2 b3))
                      all_goals
                        go_ret
                        exact ⟨ret_i hG.out.symm, B3.alloc B3.size _⟩
                  · have hFp : 0 < F := by omega
                    rw [if_pos (by omega)] at hR
                    have hG := fin 3 hR
                    clear hR hd0 HP fin hdx hdx' cP
                    go_wp2_with (go_at_call 66; refine (cD _).mono ?_; rintro e w' ⟨rfl, h'⟩; rw [h'])
                    all_goals
                      go_ret
                      exact ⟨ret_i hG.out.symm, B2⟩
                · have hG := fin 1 hR
                  clear hR hd0 HP fin hdx hdx' cP cD
                  rcases hxr with h | ⟨h, h2⟩
                  all_goals
                    go_wp2
                    all_goals
                      go_ret
                      exact ⟨ret_i hG.out.symm, B2⟩
end Go.Proofs.Ytnhhhnngocdagaa.R5
/- What the document's answers for layer 5 (poundageref05) come to: Lex. -/
namespace Go.Proofs.Ytnhhhnngocdagaa.R5
open Go.RowKit P R4
/-- Tokens as the program holds them: four cells each. -/
def tokCells (ts : List Tok) : List Value := ts.flatMap fun t => [.int .i64 t.k, .string ⟨t.t.toArray⟩, .int .i64 t.ln, .int .i64 t.cl]
theorem tokCells_snoc (ts : List Tok) (t : Tok) : tokCells (ts ++ [t]) = tokCells ts ++ [.int .i64 t.k, .string ⟨t.t.toArray⟩, .int .i64 t.ln, .int .i64 t.cl] := by unfold tokCells; simp
/-- What is owned stays owned behind calls that leave old blocks alone. -/
theorem owns_below {w w1 : World} {base : Nat} {e : TypeId} {size n : Nat} {v : Value} {xs : List Value} (h : w.ownsRow base e size v n xs) (b : Below w.heap.size w w1) : w1.ownsRow base e size v n xs := by
  refine ⟨h.1, ?_⟩
  rcases h.2 with h2 | ⟨g, cap, cur, h1, h2, h3, h4⟩
  · exact .inl h2
  · have hg : g < w.heap.size := by
      rcases Nat.lt_or_ge g w.heap.size with k | k
      · exact k
      · rw [Array.getElem?_eq_none k] at h3; cases h3
    exact .inr ⟨g, cap, cur, h1, h2, by rw [b.block g hg]; exact h3, h4⟩
theorem info_tok : (Try.prog.info? 78).map (fun i => (i.zero, i.size, i.bytes)) = some (some (.agg #[.int .i64 0, .string ⟨#[]⟩, .int .i64 0, .int .i64 0]), 4, 40) := by kernel_rfl
theorem und_toks : Try.prog.underlying 71 = some (.slice 78) := by kernel_rfl
set_option maxHeartbeats 8000000 in
set_option maxRecDepth 100000 in
theorem lex_any (s : ByteArray) (w : World) : Calls Try.prog 30 #[.string s] w fun e w' => ∃ v, e = .returned (.tuple #[v, .int .i64 (lexed s.data.toList).2.1, .int .i64 (lexed s.data.toList).2.2.1, .int .i64 (lexed s.data.toList).2.2.2]) ∧
    w'.ownsRow w.heap.size 78 4 v (lexed s.data.toList).1.length (tokCells (lexed s.data.toList).1) ∧ Below w.heap.size w w' := by
  obtain ⟨i0, hi, hz0, hz1, hz2⟩ := info_parts info_tok
  have hbyte := R4.byte_at s
  obtain ⟨l, hl⟩ : ∃ l, l = s.data.toList := ⟨_, rfl⟩
  have hz : l.length = s.size := by rw [hl]; simp
  rw [← hl]
  rw [← hl] at hbyte
  by_cases hbig : 8192 < s.size
  · have hG := hid (lexed_great (show 8192 < l.length by omega))
    clear hbyte hl
    go_enter Try.func30, Try.ntmps30
    go_wp2
    refine bodyPost_ret (v := .tuple #[.slice none 0 0, .int .i64 6, .int .i64 1, .int .i64 1]) (by simp [results, Try.results30, go_sem]) rfl ?_
    rw [hG.out]
    exact ⟨_, rfl, World.ownsRow_nil _ _ _ _, Below.refl _ _⟩
  · have HY := hid hbyte
    clear hbyte
    go_enter Try.func30, Try.ntmps30
    go_wp2
    go_loopw [6, 7, 8, 9] (fun v ln cl i wr => ∃ (L C i' : Int) (acc : List Tok), ln = .int .i64 L ∧ cl = .int .i64 C ∧ i = .int .i64 i' ∧ 0 ≤ i' ∧ i' ≤ s.size ∧ 1 ≤ L ∧ L ≤ i' + 1 ∧ 1 ≤ C ∧ C ≤ i' + 1 ∧
      Hid (Sofar l i'.toNat L.toNat C.toNat acc ∧ wr.ownsRow w.heap.size 78 4 v acc.length (tokCells acc) ∧ Below w.heap.size w wr)) (fun _ _ _ i _ => ((s.size : Int) - intOf i).toNat)
    case atStart => exact ⟨1, 1, 0, [], rfl, rfl, rfl, by omega, by omega, by omega, by omega, by omega, by omega, hid ⟨read_start l, World.ownsRow_nil _ _ _ _, Below.refl _ _⟩⟩
    case round =>
      obtain ⟨L, C, i', acc, rfl, rfl, rfl, i0', i1, L0, L1, C0, C1, hst⟩ := hrel
      by_cases hlt : i' < s.size
      · have hb := HY.out i' i0' hlt
        have hil : i'.toNat < l.length := by omega
        obtain ⟨c, hc⟩ : ∃ c, c = l.getD i'.toNat 0 := ⟨_, rfl⟩
        simp only [← hc] at hb
        have hx : ∀ n : UInt8, ((c.toNat : Int) = (n.toNat : Int) ↔ c = n) := fun n => ⟨fun h => UInt8.toNat_inj.1 (by omega), fun h => by rw [h]⟩
        have x35 := hx 35
        have x10 := hx 10
        have x32 := hx 32
        have x9 := hx 9
        have x13 := hx 13
        have hlc := ltI_of c
        obtain ⟨x, hxx⟩ : ∃ x : Int, x = (c.toNat : Int) := ⟨_, rfl⟩
        rw [← hxx] at x35 x10 x32 x9 x13 hlc
        simp only [← hxx] at hb
        simp only [show ((35 : UInt8).toNat : Int) = 35 from rfl, show ((10 : UInt8).toNat : Int) = 10 from rfl, show ((32 : UInt8).toNat : Int) = 32 from rfl, show ((9 : UInt8).toNat : Int) = 9 from rfl, show ((13 : UInt8).toNat : Int) = 13 from rfl] at x35 x10 x32 x9 x13
        clear hx hxx
        have HC := hid hc
        clear hc
        obtain ⟨hR, hO, hB⟩ := hst.out
        by_cases n35 : x = 35
        · -- a note
          subst n35
          have c35 := hid (x35.1 rfl)
          clear x35 x10 x32 x9 x13 hlc hR hO hB
          go_wp2
          go_loop [11] (fun k => ∃ k' : Int, k = .int .i64 k' ∧ i' + 1 ≤ k' ∧ k' ≤ s.size ∧ Hid (∀ j : Nat, i'.toNat + 1 ≤ j → j < k'.toNat → l.getD j 0 ≠ 10)) (fun k => ((s.size : Int) - intOf k).toNat)
          case atStart => exact ⟨i' + 1, rfl, by omega, by omega, hid (fun j a b => by omega)⟩
          case round =>
            obtain ⟨k', rfl, k0, k1, hk⟩ := hrel
            by_cases hkl : k' < s.size
            · have hbk := HY.out k' (by omega) hkl
              obtain ⟨d, hd⟩ : ∃ d, d = l.getD k'.toNat 0 := ⟨_, rfl⟩
              simp only [← hd] at hbk
              obtain ⟨y, hy⟩ : ∃ y : Int, y = (d.toNat : Int) := ⟨_, rfl⟩
              have hd10 : y = 10 ↔ d = 10 := ⟨fun h => UInt8.toNat_inj.1 (by show _ = 10; omega), fun h => by rw [hy, h]; rfl⟩
              simp only [← hy] at hbk
              clear hy
              by_cases hy10 : y = 10
              · have hp := hid (piece_note (k := k'.toNat) hil (by omega) (by omega) (HC.out.symm.trans c35.out) hk.out (fun _ => hd.symm.trans (hd10.1 hy10)))
                have b1 : (y != 10) = false := by rw [hy10]; rfl
                have hR2 := hid (hst.out.1.skip (k := k'.toNat) hil (by rw [← HC.out, c35.out]; decide) (by rw [← HC.out, c35.out]; decide) (by omega) hp.out)
                clear hd hd10 hy10 hk hp
                go_wp2
                go_roundw
                case rel => exact ⟨L, C + (k' - i'), k', acc, rfl, vi (by omega), rfl, by omega, by omega, by omega, by omega, by omega, by omega, hid ⟨by
                  rw [show (C + (k' - i')).toNat = C.toNat + (k'.toNat - i'.toNat) by omega]; exact hR2.out, hst.out.2⟩⟩
                case measure => simp [intOf]; omega
              · have b1 : (y != 10) = true := bne_iff_ne.2 hy10
                have hk2 : Hid (∀ j : Nat, i'.toNat + 1 ≤ j → j < (k' + 1).toNat → l.getD j 0 ≠ 10) := hid (fun j a b => by
                  rcases Nat.lt_or_ge j k'.toNat with h | h
                  · exact hk.out j a h
                  · rw [show j = k'.toNat by omega, ← hd]; exact fun h => hy10 (hd10.2 h))
                clear hd hd10 hy10 hk
                go_wp2
                go_round
                case rel => exact ⟨k' + 1, rfl, by omega, by omega, hk2⟩
                case measure => simp [intOf]; omega
            · obtain rfl : k' = s.size := by omega
              have hp := hid (piece_note (k := (s.size : Int).toNat) hil (by omega) (by omega) (HC.out.symm.trans c35.out) hk.out (fun h => by omega))
              have hR2 := hid (hst.out.1.skip (k := (s.size : Int).toNat) hil (by rw [← HC.out, c35.out]; decide) (by rw [← HC.out, c35.out]; decide) (by omega) hp.out)
              clear hk hp
              go_wp2
              go_roundw
              case rel => exact ⟨L, C + (s.size - i'), s.size, acc, rfl, vi (by omega), rfl, by omega, by omega, by omega, by omega, by omega, by omega, hid ⟨by
                rw [show (C + ((s.size : Int) - i')).toNat = C.toNat + ((s.size : Int).toNat - i'.toNat) by omega]; exact hR2.out, hst.out.2⟩⟩
              case measure => simp [intOf]; omega
        · by_cases n10 : x = 10
          · subst n10
            have hR2 := hid (hR.line hil (HC.out.symm.trans (x10.1 rfl)))
            clear x35 x10 x32 x9 x13 hlc hR hO hB n35
            go_wp2
            go_roundw
            case rel => exact ⟨L + 1, 1, i' + 1, acc, rfl, rfl, rfl, by omega, by omega, by omega, by omega, by omega, by omega, hid ⟨by
              rw [show (L + 1).toNat = L.toNat + 1 by omega, show (i' + 1).toNat = i'.toNat + 1 by omega]; exact hR2.out, hst.out.2⟩⟩
            case measure => simp [intOf]; omega
          · by_cases hg : x = 32 ∨ x = 9 ∨ x = 13
            · have hcc : c = 32 ∨ c = 9 ∨ c = 13 := by
                rcases hg with h | h | h
                · exact .inl (x32.1 h)
                · exact .inr (.inl (x9.1 h))
                · exact .inr (.inr (x13.1 h))
              have hgap : isGap c = true ∧ c ≠ 10 ∧ skips c = true := by
                rcases hcc with h | h | h <;> rw [h] <;> decide
              have hR2 := hid (hR.skip (k := i'.toNat + 1) hil (by rw [← HC.out]; exact hgap.2.2) (by rw [← HC.out]; exact hgap.2.1) (by omega) ((piece_gap hil (by rw [← HC.out]; exact hgap.1)).trans (by omega)))
              clear x35 x10 x32 x9 x13 hlc hR hO hB hcc hgap n35 n10
              have hend : Hid (Sofar l (i' + 1).toNat L.toNat (C + 1).toNat acc) := hid (by
                have := hR2.out
                rw [show (i' + 1).toNat = i'.toNat + 1 by omega, show (C + 1).toNat = C.toNat + (i'.toNat + 1 - i'.toNat) by omega]; exact this)
              clear hR2
              rcases hg with h | h | h
              all_goals
                subst h
                go_wp2
                go_roundw
                case rel => exact ⟨L, C + 1, i' + 1, acc, rfl, vi (by omega), rfl, by omega, by omega, by omega, by omega, by omega, by omega, hid ⟨hend.out, hst.out.2⟩⟩
                case measure => simp [intOf]; omega
            · have n32 : x ≠ 32 := fun h => hg (.inl h)
              have n9 : x ≠ 9 := fun h => hg (.inr (.inl h))
              have n13 : x ≠ 13 := fun h => hg (.inr (.inr h))
              have hsk : skips (l.getD i'.toNat 0) = false := by
                rw [← HC.out]
                unfold skips isGap
                rw [beq_eq_false_iff_ne.2 (fun h => n35 (x35.2 h)), beq_eq_false_iff_ne.2 (fun h => n10 (x10.2 h)), beq_eq_false_iff_ne.2 (fun h => n32 (x32.2 h)), beq_eq_false_iff_ne.2 (fun h => n9 (x9.2 h)), beq_eq_false_iff_ne.2 (fun h => n13 (x13.2 h))]
                rfl
              have HS := hid hsk
              have b35 : (x == 35) = false := beq_eq_false_iff_ne.2 n35
              have b10 : (x == 10) = false := beq_eq_false_iff_ne.2 n10
              have b32 : (x != 32) = true := bne_iff_ne.2 n32
              have b9 : (x != 9) = true := bne_iff_ne.2 n9
              have bb : (x != 10) = true := bne_iff_ne.2 n10
              have b13 : (x != 13) = true := bne_iff_ne.2 n13
              clear x35 x10 x32 x9 x13 hR hO hB n35 n10 n32 n9 n13 hg hsk
              go_wp2
              go_loop [11] (fun k => ∃ k' : Int, k = .int .i64 k' ∧ i' + 1 ≤ k' ∧ k' ≤ s.size ∧ Hid ((∀ j : Nat, i'.toNat + 1 ≤ j → j < k'.toNat → isLt (l.getD j 0) = true) ∧ (isLt c = false → k' = i' + 1))) (fun k => ((s.size : Int) - intOf k).toNat)
              case atStart => exact ⟨i' + 1, rfl, by omega, by omega, hid ⟨fun j a b => by omega, fun _ => rfl⟩⟩
              case round =>
                obtain ⟨k', rfl, k0, k1, hk⟩ := hrel
                have hbk : k' < s.size → _ := fun h => HY.out k' (by omega) h
                obtain ⟨d, hd⟩ : ∃ d, d = l.getD k'.toNat 0 := ⟨_, rfl⟩
                simp only [← hd] at hbk
                have hlk := ltI_of d
                obtain ⟨y, hy⟩ : ∃ y : Int, y = (d.toNat : Int) := ⟨_, rfl⟩
                rw [← hy] at hlk
                simp only [← hy] at hbk
                clear hy
                by_cases hgo : ltI x = true ∧ k' < s.size ∧ ltI y = true
                · obtain ⟨g1, g2, g3⟩ := hgo
                  have hb2 := hbk g2
                  have hk2 : Hid ((∀ j : Nat, i'.toNat + 1 ≤ j → j < (k' + 1).toNat → isLt (l.getD j 0) = true) ∧ (isLt c = false → k' + 1 = i' + 1)) := hid ⟨fun j a b => by
                    rcases Nat.lt_or_ge j k'.toNat with h | h
                    · exact hk.out.1 j a h
                    · rw [show j = k'.toNat by omega, ← hd, ← hlk]; exact g3, fun h => by rw [← hlc, g1] at h; cases h⟩
                  clear hbk hd hlk hlc hk
                  go_wp2_with (go_at_call 47; refine (letter_any _ _).mono ?_; rintro e w' ⟨rfl, h'⟩; rw [h'])
                  go_round
                  case rel => exact ⟨k' + 1, rfl, by omega, by omega, hk2⟩
                  case measure => simp [intOf]; omega
                · have hex : ltI x = false ∨ (ltI x = true ∧ (s.size : Int) ≤ k') ∨ (ltI x = true ∧ k' < s.size ∧ ltI y = false) := by
                    cases h1 : ltI x
                    · exact .inl rfl
                    · by_cases h2 : k' < s.size
                      · cases h3 : ltI y
                        · exact .inr (.inr ⟨rfl, h2, rfl⟩)
                        · exact absurd ⟨h1, h2, h3⟩ hgo
                      · exact .inr (.inl ⟨rfl, by omega⟩)
                  have hp := hid (piece_row (k := k'.toNat) hil (by omega) (by omega) HS.out hk.out.1 (fun a b => by
                    rw [← HC.out, ← hlc] at a
                    rw [← hd, ← hlk]
                    rcases hex with h | ⟨_, h⟩ | ⟨_, _, h⟩
                    · rw [h] at a; cases a
                    · omega
                    · exact h) (fun a => by have := hk.out.2 (by rw [HC.out]; exact a); omega))
                  clear hgo hk hd hlk hlc
                  obtain ⟨t, ht⟩ : ∃ t, t = (l.drop i'.toNat).take (k'.toNat - i'.toNat) := ⟨_, rfl⟩
                  have hex' : (s.extract i'.toNat k'.toNat).data.toList = t := by rw [Lib.extract_data, ← hl, ht]
                  have hsl := fun W => run_slice_string (P := Try.prog) (w := W) 9 s .i64 .i64 i' k' Try.underlying9 i0' (by omega) k1
                  have hS0 : (s.extract i'.toNat k'.toNat).size ≤ 1000000 := by rw [ByteArray.size_extract]; omega
                  obtain ⟨S, hSS⟩ : ∃ S, S = s.extract i'.toNat k'.toNat := ⟨_, rfl⟩
                  simp only [← hSS] at hsl
                  rw [← hSS] at hex' hS0
                  have cO := fun W => of_any S W hS0
                  rw [hex'] at cO
                  obtain ⟨K, hK⟩ : ∃ K : Int, K = (kd t : Int) := ⟨_, rfl⟩
                  simp only [← hK] at cO
                  have hS : Hid (S = ⟨t.toArray⟩) := hid (by rw [hSS, Lib.extract_eq, ← hl, ht])
                  clear hSS hS0
                  by_cases hK0 : K = 0
                  · subst hK0
                    have hE := hid (lexed_bad (by omega) (hst.out.1.bad (k := k'.toNat) hil HS.out hp.out (by rw [← ht]; omega)))
                    have hBo := hid hst.out.2.2
                    clear hex' hK ht hp hst
                    rcases hex with h1 | ⟨h1, h2⟩ | ⟨h1, h2, h3⟩
                    all_goals
                      try have hb2 := hbk h2
                      clear hbk
                      go_wp2_with (first
                        | (go_at_call 47; refine (letter_any _ _).mono ?_; rintro e w' ⟨rfl, h'⟩; rw [h'])
                        | (go_at_call 48; refine (cO _).mono ?_; rintro e w2 ⟨rfl, b2⟩))
                      refine bodyPost_ret (v := .tuple #[.slice none 0 0, .int .i64 3, .int .i64 L, .int .i64 C]) (by simp [results, Try.results30, go_sem]) rfl ?_
                      rw [hE.out]
                      refine ⟨.slice none 0 0, ?_, World.ownsRow_nil _ _ _ _, below_on hBo.out b2⟩
                      show Ending.returned (.tuple #[.slice none 0 0, .int .i64 3, .int .i64 L, .int .i64 C]) = Ending.returned (.tuple #[.slice none 0 0, .int .i64 3, .int .i64 (L.toNat : Int), .int .i64 (C.toNat : Int)])
                      rw [Int.toNat_of_nonneg (by omega), Int.toNat_of_nonneg (by omega)]
                  · have hTk := hid (hst.out.1.tok (k := k'.toNat) hil HS.out (by omega) hp.out (by rw [← ht]; omega))
                    have hcnt := hst.out.1.count
                    have hn : acc.length + 1 ≤ 8194 := by omega
                    have hO := hst.out.2.1
                    have hB := hst.out.2.2
                    have hbase := hB.size
                    have bK : (K == 0) = false := beq_eq_false_iff_ne.2 hK0
                    have HK := hid hK
                    have HT := hid ht
                    clear hex' hK ht hp hst hcnt hK0
                    have HO := hid hO
                    have HB := hid hB
                    clear hO hB
                    rcases hex with h1 | ⟨h1, h2⟩ | ⟨h1, h2, h3⟩
                    all_goals
                      try have hb2 := hbk h2
                      clear hbk
                      go_wp2_with (first
                        | (go_at_call 47; refine (letter_any _ _).mono ?_; rintro e w' ⟨rfl, h'⟩; rw [h'])
                        | (go_at_call 48; refine (cO _).mono ?_; rintro e w2 ⟨rfl, b2⟩; have HO2 := owns_below HO.out b2; have b2s := b2.size)
                        | (at_builtin; refine wpList_append_own _ rfl _ _ 71 rfl w.heap.size 78 i0 (.agg #[.int .i64 0, .string ⟨#[]⟩, .int .i64 0, .int .i64 0]) 4 40 und_toks hi hz0 hz1 hz2 rfl (by decide) _ _ _ rfl (HO2.alloc _) ⟨w2.heap.size, 0, none⟩ 1 1 [.int .i64 K, .string S, .int .i64 L, .int .i64 C] rfl rfl (by
                            intro j u hj
                            match j, hj with
                            | 0, hj => simp at hj; subst hj; simp [Addr.add]
                            | 1, hj => simp at hj; subst hj; simp [Addr.add]
                            | 2, hj => simp at hj; subst hj; simp [Addr.add]
                            | 3, hj => simp at hj; subst hj; simp [Addr.add]) (by simp [Value.oneCell']) (by unfold maxLen; omega) (by omega) (by simp; omega) ?_))
                      intro v' w1 hown hgrow _
                      go_wp2
                      go_roundw
                      case rel => exact ⟨L, C + (k' - i'), k', _, rfl, vi (by omega), rfl, by omega, by omega, by omega, by omega, by omega, by omega, hid ⟨by
                        rw [show (C + (k' - i')).toNat = C.toNat + (k'.toNat - i'.toNat) by omega]; exact hTk.out, by
                        rw [tokCells_snoc, List.length_append, ← HT.out, ← hS.out]
                        show w1.ownsRow _ _ _ _ _ (_ ++ [.int .i64 (kd t : Int), .string S, .int .i64 (L.toNat : Int), .int .i64 (C.toNat : Int)])
                        rw [Int.toNat_of_nonneg (by omega), Int.toNat_of_nonneg (by omega), ← HK.out]
                        exact hown, ((below_on HB.out b2).alloc (by omega) _).grown hgrow (by simp; omega) (fun k hk => (HO.out.lt k hk).1)⟩⟩
                      case measure => simp [intOf]; omega
      · obtain rfl : i' = s.size := by omega
        obtain ⟨hR, hO, hB⟩ := hst.out
        have hE := hid (lexed_ok (by omega) (hR.stop (by omega)))
        have hcnt := hR.count
        have hn : acc.length + 1 ≤ 8194 := by omega
        clear hcnt
        have hsz := hB.size
        go_wp2_with (at_builtin; refine wpList_append_own _ rfl _ _ 71 rfl w.heap.size 78 i0 (.agg #[.int .i64 0, .string ⟨#[]⟩, .int .i64 0, .int .i64 0]) 4 40 und_toks hi hz0 hz1 hz2 rfl (by decide) _ _ _ rfl (hO.alloc _) ⟨wr.heap.size, 0, none⟩ 1 1 [.int .i64 0, .string ⟨#[]⟩, .int .i64 L, .int .i64 C] rfl rfl ?c1 ?c2 ?c3 ?c4 ?c5 ?_)
        case c2 => exact ⟨rfl, rfl, rfl, rfl⟩
        case c3 => unfold maxLen; omega
        case c4 => omega
        case c5 => omega
        intro v' w1 hown hgrow _
        go_wp2
        refine bodyPost_ret (v := .tuple #[v', .int .i64 0, .int .i64 0, .int .i64 0]) (by simp [results, Try.results30, go_sem]) rfl ?_
        rw [hE.out]
        refine ⟨v', rfl, ?_, (hB.alloc hB.size _).grown hgrow (by simp; omega) (fun k hk => (hO.lt k hk).1)⟩
        rw [tokCells_snoc, List.length_append]
        show w1.ownsRow _ _ _ _ _ (_ ++ [.int .i64 0, .string ⟨#[]⟩, .int .i64 (L.toNat : Int), .int .i64 (C.toNat : Int)])
        rw [Int.toNat_of_nonneg (by omega), Int.toNat_of_nonneg (by omega)]
        exact hown
end Go.Proofs.Ytnhhhnngocdagaa.R5
/- What the document's answers for layer 4 (poundageref04) come to: more. -/
namespace Go.Proofs.Ytnhhhnngocdagaa.R4
open Go.RowKit P Ex
theorem more_any (n d : Int) (ok : Bool) (w : World) (hn : I64 n) (hd : I64 d) :
    Calls Try.prog 68 #[.int .i64 n, .int .i64 d, .bool ok] w fun e w' => e = .returned (.tuple #[.int .i64 (if ok && ok64 (n * 10 + d) then n * 10 + d else 0), .bool (ok && ok64 (n * 10 + d))]) ∧ Below w.heap.size w w' := by
  have cM := fun W => R1.mul_any n 10 W hn (by unfold I64; omega)
  have cO := fun W => R1.of_any d W hd
  have h1 : (n * 10).natAbs < two127 := by unfold I64 at hn; unfold two127; omega
  have h2 : d.natAbs < two127 := by unfold I64 at hd; unfold two127; omega
  have cA := fun W => R1.add_any (n * 10) d W h1 h2
  have cI := fun W => R1.int_any (n * 10 + d) W
  obtain ⟨V, hV⟩ : ∃ V, V = n * 10 + d := ⟨_, rfl⟩
  rw [← hV]
  simp only [← hV] at cA cI
  obtain ⟨A, hA⟩ : ∃ A, A = R1.W (n * 10) := ⟨_, rfl⟩
  obtain ⟨D, hD⟩ : ∃ D, D = R1.W d := ⟨_, rfl⟩
  obtain ⟨S, hS⟩ : ∃ S, S = R1.W V := ⟨_, rfl⟩
  simp only [← hA] at cM cA
  simp only [← hD] at cO cA
  simp only [← hS] at cA cI
  obtain ⟨K, hK⟩ : ∃ K, K = ok64 V := ⟨_, rfl⟩
  have hc : cut64 V = if K = true then V else 0 := by unfold cut64; rw [hK]
  rw [← hK]
  simp only [← hK, hc] at cI
  clear hn hd h1 h2 hV hA hD hS hK hc
  cases ok <;> cases K
  all_goals
    go_enter Try.func68, Try.ntmps68
    go_wp2_with (first
      | (go_at_call 73; refine (cM _).mono ?_; rintro e w1 ⟨rfl, b1⟩)
      | (go_at_call 59; refine (cO _).mono ?_; rintro e w2 ⟨rfl, b2⟩; have B2 := b1.trans (b2.mono b1.size))
      | (go_at_call 58; refine (cA _).mono ?_; rintro e w3 ⟨rfl, b3⟩; have B3 := B2.trans (b3.mono B2.size))
      | (go_at_call 57; refine (cI _).mono ?_; rintro e w4 ⟨rfl, b4⟩; have B4 := B3.trans (b4.mono B3.size)))
    go_ret2
    exact ⟨Ex.ret_2 rfl rfl, B4⟩
end Go.Proofs.Ytnhhhnngocdagaa.R4
/- What the document's answers for layer 4 (poundageref04) come to: Parse. -/
namespace Go.Proofs.Ytnhhhnngocdagaa.R4
open Go.RowKit P Ex
theorem below_on {w W w' : World} (h : Below w.heap.size w W) (hb : Below W.heap.size W w') : Below w.heap.size w w' := h.trans (hb.mono h.size)
/-- A digit more, as the walk meets it. -/
theorem more_acc (v d : Int) (w : World) (hv : 0 ≤ v) (hd : 0 ≤ d) (hd1 : d ≤ 9) :
    Calls Try.prog 68 #[.int .i64 (cut64 v), .int .i64 d, .bool (ok64 v)] w fun e w' => e = .returned (.tuple #[.int .i64 (cut64 (v * 10 + d)), .bool (ok64 (v * 10 + d))]) ∧ Below w.heap.size w w' := by
  have h := more_any (cut64 v) d (ok64 v) w (i64_cut v) (by unfold I64; omega)
  obtain ⟨e1, e2⟩ := acc_step hv hd
  rw [e2, e1] at h
  exact h
set_option maxHeartbeats 4000000 in
theorem parse_any (s : ByteArray) (places most : Int) (w : World) (hs : s.size ≤ 4611686018427387904) :
    Calls Try.prog 51 #[.string s, .int .i64 places, .int .i64 most] w fun e w' => e = .returned (.tuple #[.int .i64 (pN s.data.toList places most), .int .i64 (pW s.data.toList places most)]) ∧ Below w.heap.size w w' := by
  have cO := fun W => of_any s W (by omega)
  obtain ⟨l, hl⟩ : ∃ l, l = s.data.toList := ⟨_, rfl⟩
  have hbyte := byte_at s
  have hz : l.length = s.size := by rw [hl]; simp
  rw [← hl]
  rw [← hl] at hbyte
  simp only [← hl] at cO
  clear hl
  obtain ⟨F, hF⟩ : ∃ F : Int, F = (fm l : Int) := ⟨_, rfl⟩
  simp only [← hF] at cO
  by_cases h : F = 0 ∨ places < 0 ∨ 9 < places
  · have hb : pBad l places = true := by unfold pBad; rw [decide_eq_true_eq]; omega
    have e1 := hid (show pN l places most = 0 by unfold pN; rw [hb]; rfl)
    have e2 := hid (show pW l places most = 1 by unfold pW; rw [hb]; rfl)
    clear hb hF hz hbyte
    have h' : F = 0 ∨ (F ≠ 0 ∧ places < 0) ∨ (F ≠ 0 ∧ ¬ places < 0 ∧ 9 < places) := by omega
    clear h
    go_enter Try.func51, Try.ntmps51
    rcases h' with h | ⟨h0, h⟩ | ⟨h0, h, h1⟩
    · have b0 : (F == 0) = true := by simpa using h
      go_wp2_with (go_at_call 66; refine (cO _).mono ?_; rintro e w' ⟨rfl, h'⟩; rw [h'])
      go_ret2
      exact ⟨ret_2 (vi e1.out.symm) (vi e2.out.symm), Below.refl _ _⟩
    · have b0 : (F == 0) = false := by simpa using h0
      go_wp2_with (go_at_call 66; refine (cO _).mono ?_; rintro e w' ⟨rfl, h'⟩; rw [h'])
      go_ret2
      exact ⟨ret_2 (vi e1.out.symm) (vi e2.out.symm), Below.refl _ _⟩
    · have b0 : (F == 0) = false := by simpa using h0
      go_wp2_with (go_at_call 66; refine (cO _).mono ?_; rintro e w' ⟨rfl, h'⟩; rw [h'])
      go_ret2
      exact ⟨ret_2 (vi e1.out.symm) (vi e2.out.symm), Below.refl _ _⟩
  · have b0 : (F == 0) = false := by simp; omega
    have hfm : fm l ≠ 0 := by omega
    have hall := fm_all hfm
    have h0 : 0 ≤ places := by omega
    have h9 : places ≤ 9 := by omega
    have hBad : pBad l places = decide (places < stB l) := by unfold pBad; rw [decide_eq_decide]; omega
    clear h hF
    go_enter Try.func51, Try.ntmps51
    go_wp2_with (go_at_call 66; refine (cO _).mono ?_; rintro e w' ⟨rfl, h'⟩; rw [h'])
    clear cO
    go_loopw [8, 9, 10, 11] (fun b n ok i wr => ∃ (b' v' i' : Int), b = .int .i64 b' ∧ n = .int .i64 (cut64 v') ∧ ok = .bool (ok64 v') ∧ i = .int .i64 i' ∧ 0 ≤ i' ∧ i' ≤ s.size ∧ -1 ≤ b' ∧ b' ≤ i' ∧ 0 ≤ v' ∧
      Hid (b' = stB (l.take i'.toNat) ∧ v' = (stV (l.take i'.toNat) : Int)) ∧ Below w.heap.size w wr) (fun _ _ _ i _ => ((s.size : Int) - intOf i).toNat)
    case atStart => exact ⟨-1, 0, 0, rfl, rfl, rfl, rfl, by omega, by omega, by omega, by omega, by omega, hid ⟨rfl, rfl⟩, Below.refl _ _⟩
    case round =>
      obtain ⟨b', v', i', rfl, rfl, rfl, rfl, i0, i1, bl, bu, v0, hst, hbw⟩ := hrel
      by_cases hi : i' < s.size
      · have hil : i'.toNat < l.length := by omega
        have hb := hbyte i' i0 hi
        have e1 : (i' + 1).toNat = i'.toNat + 1 := by omega
        have hdp := dp_or hall hil
        have hts := take_snoc hil
        obtain ⟨hB, hV⟩ := hst.out
        have sB := stB_snoc (l.take i'.toNat) (l.getD i'.toNat 0)
        have sV := stV_snoc (l.take i'.toNat) (l.getD i'.toNat 0)
        rw [← hts] at sB sV
        obtain ⟨c, hc⟩ : ∃ c, c = l.getD i'.toNat 0 := ⟨_, rfl⟩
        rw [← hc] at sB sV hdp
        simp only [← hc] at hb
        obtain ⟨z, hz'⟩ : ∃ z : Int, z = (c.toNat : Int) := ⟨_, rfl⟩
        simp only [← hz'] at hb
        clear hc hts hbyte hst
        rcases hdp with hp46 | hdg
        · have b1 : (z == 46) = true := by rw [hz', hp46]; rfl
          rw [if_pos hp46] at sB sV
          have H : Hid ((0 : Int) = stB (l.take (i' + 1).toNat) ∧ v' = (stV (l.take (i' + 1).toNat) : Int)) := hid (by rw [e1, sB, sV]; exact ⟨rfl, hV⟩)
          clear sB sV hz' hp46 hB hV e1
          go_wp2
          go_roundw
          case rel => exact ⟨0, v', i' + 1, rfl, rfl, rfl, rfl, by omega, by omega, by omega, by omega, v0, H, hbw⟩
          case measure => simp [intOf]; omega
        · have hne := isDg_no46 hdg
          rw [isDg_iff] at hdg
          have b1 : (z == 46) = false := by simp; omega
          rw [if_neg hne] at sB sV
          have z0 : 48 ≤ z := by omega
          have z1 : z ≤ 57 := by omega
          have cM := fun W => more_acc v' (z - 48) W v0 (by omega) (by omega)
          by_cases hb0 : 0 ≤ b'
          · rw [if_pos (by omega)] at sB
            have H : Hid (b' + 1 = stB (l.take (i' + 1).toNat) ∧ v' * 10 + (z - 48) = (stV (l.take (i' + 1).toNat) : Int)) := hid (by rw [e1, sB, sV]; omega)
            clear sB sV hz' hne hB hV e1 hdg
            go_wp2_with (go_at_call 68; refine (cM _).mono ?_; rintro e w2 ⟨rfl, b2⟩; have B2 := below_on hbw b2)
            go_roundw
            case rel => exact ⟨b' + 1, _, i' + 1, rfl, rfl, rfl, rfl, by omega, by omega, by omega, by omega, by omega, H, B2⟩
            case measure => simp [intOf]; omega
          · rw [if_neg (by omega)] at sB
            have H : Hid (b' = stB (l.take (i' + 1).toNat) ∧ v' * 10 + (z - 48) = (stV (l.take (i' + 1).toNat) : Int)) := hid (by rw [e1, sB, sV]; omega)
            clear sB sV hz' hne hB hV e1 hdg
            go_wp2_with (go_at_call 68; refine (cM _).mono ?_; rintro e w2 ⟨rfl, b2⟩; have B2 := below_on hbw b2)
            go_roundw
            case rel => exact ⟨b', _, i' + 1, rfl, rfl, rfl, rfl, by omega, by omega, by omega, by omega, by omega, H, B2⟩
            case measure => simp [intOf]; omega
      · obtain rfl : i' = s.size := by omega
        obtain ⟨hB, hV⟩ := hst.out
        rw [show ((s.size : Int)).toNat = l.length by omega, List.take_length] at hB hV
        rw [← hB] at hBad
        by_cases hgt : places < b'
        · have e1 := hid (show pN l places most = 0 by unfold pN; rw [hBad, decide_eq_true hgt]; rfl)
          have e2 := hid (show pW l places most = 1 by unfold pW; rw [hBad, decide_eq_true hgt]; rfl)
          clear hBad hB hV hst hbyte
          go_wp2
          go_ret2
          exact ⟨ret_2 (vi e1.out.symm) (vi e2.out.symm), hbw⟩
        · rw [decide_eq_false hgt] at hBad
          have hk : pK l places = (places - max b' 0).toNat := by unfold pK; rw [← hB]
          have hpv : pV l places = v' * 10 ^ (places - max b' 0).toNat := by unfold pV; rw [hk, ← hV]
          obtain ⟨k0, hk0⟩ : ∃ k0, k0 = max b' 0 := ⟨_, rfl⟩
          have k00 : 0 ≤ k0 := by omega
          have k01 : k0 ≤ places := by omega
          rw [← hk0] at hpv
          have hmx : (if b' < 0 then 0 else b') = k0 := by rw [hk0]; split <;> omega
          have HP := hid hpv
          have HB := hid hBad
          clear hBad hB hst hbyte hk hpv hV
          go_wp2
          go_loopw [9, 10, 12] (fun n ok k wx => ∃ u k' : Int, n = .int .i64 (cut64 u) ∧ ok = .bool (ok64 u) ∧ k = .int .i64 k' ∧ k0 ≤ k' ∧ k' ≤ places ∧ 0 ≤ u ∧ Hid (u = v' * 10 ^ (k' - k0).toNat) ∧ Below w.heap.size w wx) (fun _ _ k _ => (places - intOf k).toNat)
          case atStart => exact ⟨v', k0, rfl, rfl, vi hk0.symm, by omega, k01, v0, hid (by simp), hbw⟩
          case round =>
            obtain ⟨u, k', rfl, rfl, rfl, q0, q1, u0, hu, hb2⟩ := hrel
            by_cases hlt : k' < places
            · have cM := fun W => more_acc u 0 W u0 (by omega) (by omega)
              have H : Hid (u * 10 = v' * 10 ^ (k' + 1 - k0).toNat) := hid (by
                rw [show (k' + 1 - k0).toNat = (k' - k0).toNat + 1 by omega, Int.pow_succ, ← Int.mul_assoc, ← hu.out])
              clear hu hmx hk0
              go_wp2_with (go_at_call 68; refine (cM _).mono ?_; rintro e w2 ⟨rfl, b2⟩; have B2 := below_on hb2 b2)
              go_roundw
              case rel => exact ⟨_, k' + 1, rfl, rfl, rfl, by omega, by omega, by omega, H, B2⟩
              case measure => simp [intOf]; omega
            · obtain rfl : k' = places := by omega
              have hpu : pV l k' = u := by rw [HP.out, hu.out]
              have hb := HB.out
              clear hmx hk0
              cases hk : ok64 u
              · have e1 := hid (show pN l k' most = 0 by unfold pN pGreat; rw [hb, hpu, hk]; rfl)
                have e2 := hid (show pW l k' most = 2 by unfold pW pGreat; rw [hb, hpu, hk]; rfl)
                clear hpu hb hu
                go_wp2
                go_ret2
                exact ⟨ret_2 (vi e1.out.symm) (vi e2.out.symm), hb2⟩
              · have hI := (ok64_iff u).1 hk
                have hcu : cut64 u = u := cut64_t hI
                rw [hcu]
                by_cases hm : most < u
                · have e1 := hid (show pN l k' most = 0 by unfold pN pGreat; rw [hb, hpu, hk, decide_eq_true hm]; rfl)
                  have e2 := hid (show pW l k' most = 2 by unfold pW pGreat; rw [hb, hpu, hk, decide_eq_true hm]; rfl)
                  clear hpu hb hu
                  go_wp2
                  go_ret2
                  exact ⟨ret_2 (vi e1.out.symm) (vi e2.out.symm), hb2⟩
                · have e1 := hid (show pN l k' most = u by unfold pN pGreat; rw [hb, hpu, hk, decide_eq_false hm]; rfl)
                  have e2 := hid (show pW l k' most = 0 by unfold pW pGreat; rw [hb, hpu, hk, decide_eq_false hm]; rfl)
                  clear hpu hb hu
                  go_wp2
                  go_ret2
                  exact ⟨ret_2 (vi e1.out.symm) (vi e2.out.symm), hb2⟩
end Go.Proofs.Ytnhhhnngocdagaa.R4

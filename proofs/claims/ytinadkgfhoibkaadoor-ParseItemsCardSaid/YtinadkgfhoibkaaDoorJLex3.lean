/- What the document's answers for layer 4 (poundageref04) come to: digit, Of. -/
import Derived.Test.YtinadkgfhoibkaaDoorRows
import Derived.Test.YtinadkgfhoibkaaDoorJLexQ
import Derived.Test.YtinadkgfhoibkaaDoorJDecim
import Derived.WalkSmall
import Derived.WalkKit
import Derived.Lib.Strings
import Derived.Laws.Cover1
import Derived.Test.YtinadkgfhoibkaaDoorJLexK
import Derived.Test.YtinadkgfhoibkaaDoorJDate
import Derived.Test.YtinadkgfhoibkaaDoorJPa3
namespace Go.Proofs.YtinadkgfhoibkaaDoor.R4
open Go.RowKit P

/-- A letter that is a digit, as a number. -/
def dgI (x : Int) : Bool := decide (48 ≤ x ∧ x ≤ 57)
theorem dgI_of (b : UInt8) : dgI ((b.toNat : Nat) : Int) = isDg b := by unfold dgI isDg; rw [decide_eq_decide]; omega
theorem digit_any (x : Int) (w : World) : Calls Tryd.prog 46 #[.int .u8 x] w fun e w' => e = .returned (.bool (dgI x)) ∧ w' = w := by
  rcases Decidable.em (48 ≤ x) with h | h
  · have b : decide (48 ≤ x) = true := decide_eq_true h
    have e : dgI x = decide (x ≤ 57) := by unfold dgI; rw [decide_eq_decide]; omega
    have E := hid e
    clear e
    go_enter Tryd.func46, Tryd.ntmps46
    go_wp2
    go_ret
    exact ⟨ret_b E.out.symm, rfl⟩
  · have b : decide (48 ≤ x) = false := decide_eq_false h
    have e : dgI x = false := by unfold dgI; rw [decide_eq_false_iff_not]; omega
    have E := hid e
    clear e
    go_enter Tryd.func46, Tryd.ntmps46
    go_wp2
    go_ret
    exact ⟨ret_b E.out.symm, rfl⟩
theorem byte_at (s : ByteArray) (i : Int) (h0 : 0 ≤ i) (h1 : i < s.size) (W : World) : (Instr.index 9 (.string s) (.int .i64 i)).run Tryd.prog W = .ok (.int .u8 ((s.data.toList.getD i.toNat 0).toNat : Int)) W := by
  have hl : i.toNat < s.data.toList.length := by show _ < s.size; omega
  have hb : s.data.toList[i.toNat]'hl = s[i.toNat]'(by omega) := by rw [Array.getElem_toList]; rfl
  rw [run_index_string W 9 s .i64 i Tryd.underlying9, dif_pos ⟨h0, h1⟩, List.getD_eq_getElem?_getD, List.getElem?_eq_getElem hl, hb, Option.getD_some]
set_option maxHeartbeats 2000000 in
theorem of_any (s : ByteArray) (w : World) (hs : s.size ≤ 9223372036854775807) : Calls Tryd.prog 28 #[.string s] w fun e w' => e = .returned (.int .i64 (fm s.data.toList)) ∧ w' = w := by
  obtain ⟨l, hl⟩ : ∃ l, l = s.data.toList := ⟨_, rfl⟩
  have hbyte := byte_at s
  have hz : l.length = s.size := by rw [hl]; simp
  have htl : s.toList = l := by rw [Lib.toList_data, hl]
  rw [← hl]
  rw [← hl] at hbyte
  clear hl
  by_cases h0 : l.length = 0
  · have hn : l = [] := List.length_eq_zero_iff.1 h0
    subst hn
    go_enter Tryd.func28, Tryd.ntmps28
    go_wp2
    go_ret
    exact ⟨ret_i (by rw [fm_empty]; rfl), rfl⟩
  · have x0 := hbyte 0 (by omega) (by omega)
    have hne : (l == []) = false := by
      rw [beq_eq_false_iff_ne]
      rintro rfl
      exact h0 rfl
    cases hd : isDg (l.getD 0 0)
    · have hf := hid (fm_first hd)
      rw [← dgI_of] at hd
      obtain ⟨x, hx⟩ : ∃ x : Int, x = ((l.getD 0 0).toNat : Int) := ⟨_, rfl⟩
      rw [← hx] at hd
      have x0' : ∀ W, (Instr.index 9 (.string s) (.int .i64 0)).run Tryd.prog W = .ok (.int .u8 x) W := fun W => by rw [hx]; exact x0 W
      clear x0 hx
      go_enter Tryd.func28, Tryd.ntmps28
      go_wp2_with (go_at_call 46; refine (digit_any _ _).mono ?_; rintro e w' ⟨rfl, h'⟩; rw [h'])
      go_ret
      exact ⟨ret_i (by rw [hf.out]; rfl), rfl⟩
    · have hd0 := hd
      rw [← dgI_of] at hd
      obtain ⟨x, hx⟩ : ∃ x : Int, x = ((l.getD 0 0).toNat : Int) := ⟨_, rfl⟩
      rw [← hx] at hd
      have x0' : ∀ W, (Instr.index 9 (.string s) (.int .i64 0)).run Tryd.prog W = .ok (.int .u8 x) W := fun W => by rw [hx]; exact x0 W
      have HX := hid hx
      have Hd0 := hid hd0
      clear x0 hx hd0
      go_enter Tryd.func28, Tryd.ntmps28
      go_wp2_with (go_at_call 46; refine (digit_any _ _).mono ?_; rintro e w' ⟨rfl, h'⟩; rw [h'])
      go_loop [3, 4] (fun p i => ∃ p' i' : Int, p = .int .i64 p' ∧ i = .int .i64 i' ∧ 0 ≤ i' ∧ 0 ≤ p' ∧ p' ≤ 1 ∧ i' ≤ s.size ∧ Hid (Seen l i'.toNat p'.toNat)) (fun _ i => ((s.size : Int) - intOf i).toNat)
      case atStart => exact ⟨0, 0, rfl, rfl, by omega, by omega, by omega, by omega, hid (Seen.start (by omega))⟩
      case round =>
        obtain ⟨p', i', rfl, rfl, i0, p0, p1, i1, S⟩ := hrel
        by_cases hi : i' < s.size
        · have hil : i'.toNat < l.length := by omega
          have hb := hbyte i' i0 hi
          have e1 : (i' + 1).toNat = i'.toNat + 1 := by omega
          have e2 : (p' + 1).toNat = p'.toNat + 1 := by omega
          have hlast : i' + 1 = s.size ↔ i'.toNat + 1 = l.length := by omega
          have hdg := dgI_of (l.getD i'.toNat 0)
          have h46 : ((l.getD i'.toNat 0).toNat : Int) = 46 ↔ l.getD i'.toNat 0 = 46 := by
            constructor
            · intro h; exact UInt8.toNat_inj.1 (by show _ = 46; omega)
            · intro h; rw [h]; rfl
          have S' := S.out
          have bad : evenBody l = false → Hid (fm l = 0) := fun h => hid (fm_body h)
          have f2 := fun a b => bad (S'.two hil a b)
          have f3 := fun a b => bad (ends_point (l := l) (i := i'.toNat) a b)
          have f4 := fun a b => bad (bad_letter hil a b)
          have g1 : isDg (l.getD i'.toNat 0) = true → Hid (Seen l (i' + 1).toNat p'.toNat) := fun h => hid (by rw [e1]; exact S'.digit hil h)
          have g2 : l.getD i'.toNat 0 = 46 → p'.toNat = 0 → i'.toNat + 1 ≠ l.length → Hid (Seen l (i' + 1).toNat (p' + 1).toNat) := fun a b c => hid (by rw [e1, e2]; exact S'.point hil a b c)
          obtain ⟨b, hb'⟩ : ∃ b, b = l.getD i'.toNat 0 := ⟨_, rfl⟩
          rw [← hb'] at hdg h46 f2 f3 f4 g1 g2
          simp only [← hb'] at hb
          obtain ⟨z, hz'⟩ : ∃ z : Int, z = (b.toNat : Int) := ⟨_, rfl⟩
          rw [← hz'] at hdg h46
          simp only [← hz'] at hb
          clear S' S e1 e2 bad hb' hz' hbyte
          by_cases hp : z = 46
          · have hp' := h46.1 hp
            have b1 : (z == 46) = true := by rw [hp]; rfl
            by_cases p2 : p' = 1
            · have hG := f2 hp' (by rw [p2]; rfl)
              clear f2 f3 f4 g1 g2 h46 hdg hlast
              subst p2
              go_wp2
              go_ret
              exact ⟨ret_i (by rw [hG.out]; rfl), rfl⟩
            · obtain rfl : p' = 0 := by omega
              by_cases hl : i' + 1 = s.size
              · have hG := f3 (hlast.1 hl) hp'
                have b2 : (i' == (s.size : Int) - 1) = true := by simp; omega
                clear f2 f3 f4 g1 g2 h46 hdg hlast
                go_wp2
                go_ret
                exact ⟨ret_i (by rw [hG.out]; rfl), rfl⟩
              · have hS := g2 hp' rfl (fun k => hl (hlast.2 k))
                have b2 : (i' == (s.size : Int) - 1) = false := by simp; omega
                clear f2 f3 f4 g1 g2 h46 hdg hlast
                go_wp2
                go_round
                case rel => exact ⟨_, i' + 1, rfl, rfl, by omega, by omega, by omega, by omega, hS⟩
                case measure => simp [intOf]; omega
          · have b1 : (z == 46) = false := by simpa using hp
            cases hD : isDg b
            · have hG := f4 hD (fun k => hp (h46.2 k))
              rw [hD] at hdg
              clear f2 f3 f4 g1 g2 h46 hlast
              go_wp2_with (go_at_call 46; refine (digit_any _ _).mono ?_; rintro e w' ⟨rfl, h'⟩; rw [h'])
              go_ret
              exact ⟨ret_i (by rw [hG.out]; rfl), rfl⟩
            · have hS := g1 hD
              rw [hD] at hdg
              clear f2 f3 f4 g1 g2 h46 hlast
              go_wp2_with (go_at_call 46; refine (digit_any _ _).mono ?_; rintro e w' ⟨rfl, h'⟩; rw [h'])
              go_round
              case rel => exact ⟨p', i' + 1, rfl, rfl, by omega, by omega, by omega, by omega, hS⟩
              case measure => simp [intOf]; omega
        · obtain rfl : i' = s.size := by omega
          have hS : Seen l l.length p'.toNat := by
            have := S.out
            rwa [show ((s.size : Int)).toNat = l.length by omega] at this
          obtain ⟨he, hc⟩ := hS.done
          have yes : oddHead l = false → Hid (fm l = 1 + p'.toNat) := fun h => hid (by rw [fm_is Hd0.out he h, hc])
          have no : oddHead l = true → Hid (fm l = 0) := fun h => hid (fm_head h)
          have c48 : (l.getD 0 0 == 48) = decide (x = 48) := by
            rw [Bool.eq_iff_iff, beq_iff_eq, decide_eq_true_eq, HX.out]
            constructor
            · intro h; rw [h]; rfl
            · intro h; exact UInt8.toNat_inj.1 (by show _ = 48; omega)
          have hp' : (1 : Int) + p' = ((1 + p'.toNat : Nat) : Int) := by omega
          by_cases hx : x = 48
          · by_cases hl1 : (1 : Int) < s.size
            · have hy := hbyte 1 (by omega) hl1
              have c46 : (l.getD 1 0 == 46) = decide (((l.getD 1 0).toNat : Int) = 46) := by
                rw [Bool.eq_iff_iff, beq_iff_eq, decide_eq_true_eq]
                constructor
                · intro h; rw [h]; rfl
                · intro h; exact UInt8.toNat_inj.1 (by show _ = 46; omega)
              obtain ⟨y, hy'⟩ : ∃ y : Int, y = ((l.getD 1 0).toNat : Int) := ⟨_, rfl⟩
              rw [← hy'] at c46
              have hy2 : ∀ W, (Instr.index 9 (.string s) (.int .i64 1)).run Tryd.prog W = .ok (.int .u8 y) W := fun W => by rw [hy']; exact hy W
              have b1 : (x == 48) = true := by simpa using hx
              have hll : decide (1 < l.length) = true := decide_eq_true (by omega)
              clear hy hy' hbyte S hS
              by_cases h46 : y = 46
              · have hG := yes (by unfold oddHead; rw [c48, hll, c46, decide_eq_true h46]; simp)
                have b2 : (y != 46) = false := by simpa using h46
                clear yes no c48 c46 HX Hd0 hd he hc
                go_wp2
                go_ret
                exact ⟨ret_i (by rw [hG.out]; omega), rfl⟩
              · have hG := no (by unfold oddHead; rw [c48, hll, c46, decide_eq_false h46, decide_eq_true hx]; rfl)
                have b2 : (y != 46) = true := by simpa using h46
                clear yes no c48 c46 HX Hd0 hd he hc
                go_wp2
                go_ret
                exact ⟨ret_i (by rw [hG.out]; rfl), rfl⟩
            · have hG := yes (by unfold oddHead; rw [decide_eq_false (show ¬ 1 < l.length by omega)]; simp)
              have b1 : (x == 48) = true := by simpa using hx
              clear yes no c48 HX Hd0 hd he hc hbyte S hS
              go_wp2
              go_ret
              exact ⟨ret_i (by rw [hG.out]; omega), rfl⟩
          · have hG := yes (by unfold oddHead; rw [c48, decide_eq_false hx]; rfl)
            have b1 : (x == 48) = false := by simpa using hx
            clear yes no c48 HX Hd0 hd he hc hbyte S hS
            go_wp2
            go_ret
            exact ⟨ret_i (by rw [hG.out]; omega), rfl⟩
end Go.Proofs.YtinadkgfhoibkaaDoor.R4
/- What the document's answers for layer 5 (poundageref05) come to: letter, Words. -/
namespace Go.Proofs.YtinadkgfhoibkaaDoor.R5
open Go.RowKit P R4

set_option maxHeartbeats 1000000 in
theorem letter_any (x : Int) (w : World) : Calls Tryd.prog 15 #[.int .u8 x] w fun e w' => e = .returned (.bool (ltI x)) ∧ w' = w := by
  go_enter Tryd.func15, Tryd.ntmps15
  go_wp2
  all_goals
    go_ret
    refine ⟨ret_b ?_, rfl⟩
    unfold ltI
    simp_all
    try (rw [Bool.eq_iff_iff]; simp only [Bool.or_eq_true, Bool.and_eq_true, beq_iff_eq, decide_eq_true_eq]; omega)
def wordCells : Array Value := (words.map fun l => Value.string ⟨l.toArray⟩).toArray
theorem words_any (w : World) : Calls Tryd.prog 27 #[] w fun e w' => e = .returned (.slice (some ⟨w.heap.size, 0, none⟩) 26 26) ∧ w' = w.alloc (.cells wordCells 9) := by
  go_enter Tryd.func27, Tryd.ntmps27
  go_wp2
  go_ret
  exact ⟨rfl, rfl⟩
theorem word_cell (w : World) (i : Nat) (hi : i < 26) : (w.alloc (.cells wordCells 9)).cell? ⟨w.heap.size, i, none⟩ = some (.string ⟨(words.getD i []).toArray⟩) := by
  have hl : i < words.length := hi
  rw [World.cell?_alloc_new]
  show wordCells[i]? = _
  unfold wordCells
  simp [List.getElem?_map, List.getElem?_eq_getElem hl]
end Go.Proofs.YtinadkgfhoibkaaDoor.R5
/- What package lex does: letters, signs, words, names. -/
namespace Go.Proofs.YtinadkgfhoibkaaDoor.Le
open Go.RowKit P R4 R5

theorem digit_any (x : Int) (w : World) : Calls Tryd.prog 53 #[.int .u8 x] w fun e w' => e = .returned (.bool (dgI x)) ∧ w' = w := by
  go_enter Tryd.func53, Tryd.ntmps53
  go_wp2
  all_goals
    go_ret
    refine ⟨ret_b ?_, rfl⟩
    unfold dgI
    simp_all
    try omega
set_option maxHeartbeats 1000000 in
theorem inName_any (x : Int) (w : World) : Calls Tryd.prog 52 #[.int .u8 x] w fun e w' => e = .returned (.bool (nmI x)) ∧ w' = w := by
  go_enter Tryd.func52, Tryd.ntmps52
  go_wp2_with (go_at_call 53; refine (digit_any _ _).mono ?_; rintro e w' ⟨rfl, h'⟩; rw [h'])
  all_goals
    go_ret
    refine ⟨ret_b ?_, rfl⟩
    unfold nmI
    try unfold dgI
    simp_all
    try (rw [Bool.eq_iff_iff]; simp only [Bool.or_eq_true, Bool.and_eq_true, beq_iff_eq, decide_eq_true_eq]; omega)
set_option maxHeartbeats 1000000 in
theorem inRow_any (x : Int) (w : World) : Calls Tryd.prog 32 #[.int .u8 x] w fun e w' => e = .returned (.bool (ltI x)) ∧ w' = w := by
  have e : ltI x = (nmI x || (x == 46 || x == 45)) := by
    rw [Bool.eq_iff_iff]
    unfold ltI nmI
    simp only [Bool.or_eq_true, beq_iff_eq, decide_eq_true_eq]
    omega
  rw [e]
  clear e
  rcases Bool.eq_false_or_eq_true (nmI x) with hn | hn
  all_goals
    have cN := inName_any x w
    rw [hn] at cN
    have HN := hid hn
    clear hn
    go_enter Tryd.func32, Tryd.ntmps32
    go_wp2_with (go_at_call 52; refine cN.mono ?_; rintro e w' ⟨rfl, h'⟩; rw [h'])
    all_goals
      go_ret
      refine ⟨ret_b ?_, rfl⟩
      rw [HN.out]
      first | rfl | (simp_all; done) | exact Bool.or_assoc _ _ _
theorem blank_any (x : Int) (w : World) : Calls Tryd.prog 19 #[.int .u8 x] w fun e w' => e = .returned (.bool (x == 32 || (x == 9 || x == 13))) ∧ w' = w := by
  go_enter Tryd.func19, Tryd.ntmps19
  go_wp2
  all_goals
    go_ret
    refine ⟨ret_b ?_, rfl⟩
    first | rfl | (simp_all; done) | exact Bool.or_assoc _ _ _
theorem note_any (x : Int) (w : World) : Calls Tryd.prog 31 #[.int .u8 x] w fun e w' => e = .returned (.bool (x != 10)) ∧ w' = w := by
  go_enter Tryd.func31, Tryd.ntmps31
  go_wp2
  go_ret
  exact ⟨rfl, rfl⟩
theorem sign_any (s : ByteArray) (w : World) : Calls Tryd.prog 33 #[.string s] w fun e w' => e = .returned (.bool (sgn s.data.toList)) ∧ w' = w := by
  have htl : s.toList = s.data.toList := Lib.toList_data s
  obtain ⟨l, hl⟩ : ∃ l, l = s.data.toList := ⟨_, rfl⟩
  rw [← hl] at htl ⊢
  clear hl
  go_enter Tryd.func33, Tryd.ntmps33
  go_wp2
  all_goals
    go_ret
    refine ⟨ret_b ?_, rfl⟩
    unfold sgn
    first | rfl | (simp_all; done) | exact Bool.or_assoc _ _ _
set_option maxHeartbeats 4000000 in
theorem word_any (s : ByteArray) (w : World) : Calls Tryd.prog 34 #[.string s] w fun e w' => e = .returned (.bool (words.contains s.data.toList)) ∧ w' = w := by
  have htl : s.toList = s.data.toList := Lib.toList_data s
  obtain ⟨l, hl⟩ : ∃ l, l = s.data.toList := ⟨_, rfl⟩
  rw [← hl] at htl ⊢
  clear hl
  go_enter Tryd.func34, Tryd.ntmps34
  go_wp2
  all_goals
    go_ret
    refine ⟨ret_b ?_, rfl⟩
    unfold words
    first | rfl | (simp_all; done) | exact Bool.or_assoc _ _ _
end Go.Proofs.YtinadkgfhoibkaaDoor.Le
/- What package lex does: names, and where a piece ends. -/
namespace Go.Proofs.YtinadkgfhoibkaaDoor.Le
open Go.RowKit P R4 R5

theorem nm_bad {l : List UInt8} {i : Nat} (h : i < l.length) (hn : isNm (l.getD i 0) = false) : nm l = false := by
  unfold nm
  have : l.all isNm = false := by
    rw [Bool.eq_false_iff]
    intro k
    rw [List.all_eq_true] at k
    rw [k _ (mem_getD h)] at hn
    cases hn
  rw [this]; rfl
theorem name_any (s : ByteArray) (w : World) (hs : s.size ≤ 1000000) : Calls Tryd.prog 35 #[.string s] w fun e w' => e = .returned (.bool (nm s.data.toList)) ∧ w' = w := by
  have hbyte := R4.byte_at s
  have htl : s.toList = s.data.toList := Lib.toList_data s
  obtain ⟨l, hl⟩ : ∃ l, l = s.data.toList := ⟨_, rfl⟩
  have hz : l.length = s.size := by rw [hl]; simp
  rw [← hl] at htl hbyte ⊢
  clear hl
  have HY := hid hbyte
  clear hbyte
  obtain ⟨N, hN⟩ : ∃ N : Bool, N = nm l := ⟨_, rfl⟩
  rw [← hN]
  replace hN := hid hN
  go_enter Tryd.func35, Tryd.ntmps35
  go_wp2
  go_loop [6] (fun i => ∃ i' : Int, i = .int .i64 i' ∧ 0 ≤ i' ∧ i' ≤ s.size ∧ Hid ((l.take i'.toNat).all isNm = true)) (fun i => ((s.size : Int) - intOf i).toNat)
  case atStart => exact ⟨0, rfl, by omega, by omega, hid rfl⟩
  case round =>
    obtain ⟨i', rfl, i0, i1, hst⟩ := hrel
    by_cases hi : i' < s.size
    · have hil : i'.toNat < l.length := by omega
      have hb := HY.out i' i0 hi
      have hts := take_snoc hil
      have hcn := nmI_of (l.getD i'.toNat 0)
      have bad : isNm (l.getD i'.toNat 0) = false → Hid (N = false) := fun h => hid (hN.out.trans (nm_bad hil h))
      have nxt : isNm (l.getD i'.toNat 0) = true → Hid ((l.take (i' + 1).toNat).all isNm = true) := fun h => hid (by
        rw [show (i' + 1).toNat = i'.toNat + 1 by omega, hts, List.all_append, hst.out]; simpa using h)
      obtain ⟨c, hc⟩ : ∃ c, c = l.getD i'.toNat 0 := ⟨_, rfl⟩
      rw [← hc] at hcn bad nxt
      simp only [← hc] at hb
      obtain ⟨z, hz'⟩ : ∃ z : Int, z = (c.toNat : Int) := ⟨_, rfl⟩
      rw [← hz'] at hcn
      simp only [← hz'] at hb
      have cI := fun W => inName_any z W
      rw [hcn] at cI
      clear hst hts hc hz' hcn
      cases hL : isNm c
      · have hG := bad hL
        rw [hL] at cI
        clear bad nxt hL
        go_wp2_with (go_at_call 52; refine (cI _).mono ?_; rintro e w' ⟨rfl, h'⟩; rw [h'])
        go_ret
        exact ⟨ret_b hG.out.symm, rfl⟩
      · have H := nxt hL
        rw [hL] at cI
        clear bad nxt hL
        go_wp2_with (go_at_call 52; refine (cI _).mono ?_; rintro e w' ⟨rfl, h'⟩; rw [h'])
        go_round
        case rel => exact ⟨i' + 1, rfl, by omega, by omega, H⟩
        case measure => simp [intOf]; omega
    · obtain rfl : i' = s.size := by omega
      have ha := hst.out
      rw [show ((s.size : Int)).toNat = l.length by omega, List.take_length] at ha
      by_cases hn : l = []
      · have hG : Hid (N = false) := hid (by rw [hN.out, hn]; rfl)
        have t4 : (l == []) = true := by rw [hn]; rfl
        clear hst ha
        go_wp2
        go_ret
        exact ⟨ret_b hG.out.symm, rfl⟩
      · have t4 : (l == []) = false := beq_eq_false_iff_ne.2 hn
        have hlp : 0 < l.length := List.length_pos_iff.2 hn
        have x0 := HY.out 0 (by omega) (by omega)
        have hd0 := dgI_of (l.getD 0 0)
        have hG : Hid (N = !isDg (l.getD 0 0)) := hid (by
          rw [hN.out]
          unfold nm
          rw [ha]
          cases l with
          | nil => exact absurd rfl hn
          | cons a r => simp)
        rw [← hd0] at hG
        obtain ⟨x, hx⟩ : ∃ x : Int, x = ((l.getD (0 : Int).toNat 0).toNat : Int) := ⟨_, rfl⟩
        simp only [← hx] at x0
        rw [show ((l.getD 0 0).toNat : Int) = x from hx.symm] at hG
        have cD := fun W => digit_any x W
        generalize dgI x = D at *
        clear hst ha hx hd0 hn
        go_wp2_with (go_at_call 53; refine (cD _).mono ?_; rintro e w' ⟨rfl, h'⟩; rw [h'])
        go_ret
        exact ⟨ret_b hG.out.symm, rfl⟩
theorem piece_lone {l : List UInt8} {i : Nat} (hi : i < l.length) (h35 : l.getD i 0 ≠ 35) (hlt : isLt (l.getD i 0) = false) : ends l i = i + 1 := by
  unfold ends
  cases hg : isGap (l.getD i 0)
  · rw [drop_cons0 hi, piece_cons, if_neg (by simpa using h35), if_neg (by rw [hg]; decide), if_neg (by rw [hlt]; decide)]
  · rw [piece_gap hi hg]
set_option maxHeartbeats 1000000 in
theorem end_note (s : ByteArray) (i : Int) (w : World) (hs : s.size ≤ 1000000) (i0 : 0 ≤ i) (i1 : i < s.size) (hc : s.data.toList.getD i.toNat 0 = 35) :
    Calls Tryd.prog 18 #[.string s, .int .i64 i] w fun e w' => e = .returned (.int .i64 (ends s.data.toList i.toNat)) ∧ w' = w := by
  have hbyte := R4.byte_at s
  obtain ⟨l, hl⟩ : ∃ l, l = s.data.toList := ⟨_, rfl⟩
  have hz : l.length = s.size := by rw [hl]; simp
  rw [← hl] at hbyte hc ⊢
  clear hl
  have hb0 := hbyte i i0 i1
  simp only [hc] at hb0
  have HC := hid hc
  have HY := hid hbyte
  clear hbyte hc
  have hil : i.toNat < l.length := by omega
  obtain ⟨N, hN⟩ : ∃ N : Int, N = (ends l i.toNat : Int) := ⟨_, rfl⟩
  rw [← hN]
  replace hN := hid hN
  go_enter Tryd.func18, Tryd.ntmps18
  go_wp2
  go_loop [23] (fun k => ∃ k' : Int, k = .int .i64 k' ∧ 0 ≤ k' ∧ k' ≤ s.size - i ∧ Hid (∀ j : Nat, i.toNat + 1 ≤ j → j < (i + k').toNat → l.getD j 0 ≠ 10)) (fun k => ((s.size : Int) - intOf k).toNat)
  case atStart => exact ⟨0, rfl, by omega, by omega, hid (fun j a b => by omega)⟩
  case round =>
    obtain ⟨k', rfl, k0, k1, hk⟩ := hrel
    by_cases hkl : k' < s.size - i
    · have hbk := HY.out (i + k') (by omega) (by omega)
      obtain ⟨d, hd⟩ : ∃ d, d = l.getD (i + k').toNat 0 := ⟨_, rfl⟩
      simp only [← hd] at hbk
      obtain ⟨y, hy⟩ : ∃ y : Int, y = (d.toNat : Int) := ⟨_, rfl⟩
      have hd10 : y = 10 ↔ d = 10 := ⟨fun h => UInt8.toNat_inj.1 (by show _ = 10; omega), fun h => by rw [hy, h]; rfl⟩
      simp only [← hy] at hbk
      clear hy
      have cN := fun W => note_any y W
      by_cases hy10 : y = 10
      · have hkk : 1 ≤ k' := by
          rcases Int.lt_or_le 0 k' with h | h
          · exact h
          · exfalso
            obtain rfl : k' = 0 := by omega
            rw [Int.add_zero, HC.out] at hd
            rw [hd] at hd10
            exact absurd (hd10.1 hy10) (by decide)
        have hp := hid (piece_note (k := (i + k').toNat) hil (by omega) (by omega) HC.out hk.out (fun _ => hd.symm.trans (hd10.1 hy10)))
        have hG : Hid (N = i + k') := hid (by rw [hN.out]; unfold ends; rw [hp.out]; omega)
        rw [show (y != 10) = false by rw [hy10]; rfl] at cN
        clear hd hd10 hy10 hk hp
        go_wp2_with fail
        refine (cN _).mono ?_; rintro e w' ⟨rfl, h'⟩; rw [h']
        go_wp2
        go_ret
        exact ⟨ret_i hG.out.symm, rfl⟩
      · rw [show (y != 10) = true from bne_iff_ne.2 hy10] at cN
        have hk2 : Hid (∀ j : Nat, i.toNat + 1 ≤ j → j < (i + (k' + 1)).toNat → l.getD j 0 ≠ 10) := hid (fun j a b => by
          rcases Nat.lt_or_ge j (i + k').toNat with h | h
          · exact hk.out j a h
          · rw [show j = (i + k').toNat by omega, ← hd]; exact fun h => hy10 (hd10.2 h))
        clear hd hd10 hy10 hk
        go_wp2_with fail
        refine (cN _).mono ?_; rintro e w' ⟨rfl, h'⟩; rw [h']
        go_wp2
        go_round
        case rel => exact ⟨k' + 1, rfl, by omega, by omega, hk2⟩
        case measure => simp [intOf]; omega
    · obtain rfl : k' = s.size - i := by omega
      have hp := hid (piece_note (k := s.size) hil (by omega) (by omega) HC.out (fun j a b => hk.out j a (by omega)) (fun h => by omega))
      have hG : Hid (N = s.size) := hid (by rw [hN.out]; unfold ends; rw [hp.out]; omega)
      clear hk hp
      go_wp2
      go_ret
      exact ⟨ret_i hG.out.symm, rfl⟩
set_option maxHeartbeats 1000000 in
theorem end_row (s : ByteArray) (i : Int) (w : World) (hs : s.size ≤ 1000000) (i0 : 0 ≤ i) (i1 : i < s.size) (hc : isLt (s.data.toList.getD i.toNat 0) = true) :
    Calls Tryd.prog 18 #[.string s, .int .i64 i] w fun e w' => e = .returned (.int .i64 (ends s.data.toList i.toNat)) ∧ w' = w := by
  have hbyte := R4.byte_at s
  obtain ⟨l, hl⟩ : ∃ l, l = s.data.toList := ⟨_, rfl⟩
  have hz : l.length = s.size := by rw [hl]; simp
  rw [← hl] at hbyte hc ⊢
  clear hl
  have hb0 := hbyte i i0 i1
  have HC := hid hc
  have HY := hid hbyte
  clear hbyte
  have hil : i.toNat < l.length := by omega
  have hsk : Hid (skips (l.getD i.toNat 0) = false) := hid (by
    have h := hc
    generalize l.getD i.toNat 0 = c at *
    unfold skips isGap
    rw [byte_is, byte_is, byte_is, byte_is, byte_is]
    unfold isLt at h
    rw [decide_eq_true_eq] at h
    simp only [Bool.or_eq_false_iff, decide_eq_false_iff_not]
    show ¬ c.toNat = 35 ∧ ((¬ c.toNat = 32 ∧ ¬ c.toNat = 9) ∧ ¬ c.toNat = 10) ∧ ¬ c.toNat = 13
    omega)
  have hx0 := ltI_of (l.getD i.toNat 0)
  rw [hc] at hx0
  have h35 : ((l.getD i.toNat 0).toNat : Int) ≠ 35 := by
    have h := hc
    generalize l.getD i.toNat 0 = c at *
    unfold isLt at h
    rw [decide_eq_true_eq] at h
    omega
  clear hc
  obtain ⟨x, hx⟩ : ∃ x : Int, x = ((l.getD i.toNat 0).toNat : Int) := ⟨_, rfl⟩
  simp only [← hx] at hb0 hx0 h35
  clear hx
  have b35 : (x == 35) = false := beq_eq_false_iff_ne.2 h35
  have cX := fun W => inRow_any x W
  rw [hx0] at cX
  clear hx0 h35
  obtain ⟨N, hN⟩ : ∃ N : Int, N = (ends l i.toNat : Int) := ⟨_, rfl⟩
  rw [← hN]
  replace hN := hid hN
  go_enter Tryd.func18, Tryd.ntmps18
  go_wp2_with (go_at_call 32; refine (cX _).mono ?_; rintro e w' ⟨rfl, h'⟩; rw [h'])
  go_loop [23] (fun k => ∃ k' : Int, k = .int .i64 k' ∧ 0 ≤ k' ∧ k' ≤ s.size - i ∧ Hid (∀ j : Nat, i.toNat + 1 ≤ j → j < (i + k').toNat → isLt (l.getD j 0) = true)) (fun k => ((s.size : Int) - intOf k).toNat)
  case atStart => exact ⟨0, rfl, by omega, by omega, hid (fun j a b => by omega)⟩
  case round =>
    obtain ⟨k', rfl, k0, k1, hk⟩ := hrel
    clear cX
    by_cases hkl : k' < s.size - i
    · have hbk := HY.out (i + k') (by omega) (by omega)
      obtain ⟨d, hd⟩ : ∃ d, d = l.getD (i + k').toNat 0 := ⟨_, rfl⟩
      simp only [← hd] at hbk
      have hlk := ltI_of d
      obtain ⟨y, hy⟩ : ∃ y : Int, y = (d.toNat : Int) := ⟨_, rfl⟩
      rw [← hy] at hlk
      simp only [← hy] at hbk
      clear hy
      have cN := fun W => inRow_any y W
      rw [hlk] at cN
      clear hlk
      cases hL : isLt d
      · have hkk : 1 ≤ k' := by
          rcases Int.lt_or_le 0 k' with h | h
          · exact h
          · exfalso
            obtain rfl : k' = 0 := by omega
            rw [Int.add_zero] at hd
            rw [hd, HC.out] at hL
            cases hL
        have hp := hid (piece_row (k := (i + k').toNat) hil (by omega) (by omega) hsk.out hk.out (fun _ _ => by rw [← hd]; exact hL) (fun h => by rw [HC.out] at h; cases h))
        have hG : Hid (N = i + k') := hid (by rw [hN.out]; unfold ends; rw [hp.out]; omega)
        rw [hL] at cN
        clear hd hL hk hp
        go_wp2_with fail
        refine (cN _).mono ?_; rintro e w' ⟨rfl, h'⟩; rw [h']
        go_wp2
        go_ret
        exact ⟨ret_i hG.out.symm, rfl⟩
      · have hk2 : Hid (∀ j : Nat, i.toNat + 1 ≤ j → j < (i + (k' + 1)).toNat → isLt (l.getD j 0) = true) := hid (fun j a b => by
          rcases Nat.lt_or_ge j (i + k').toNat with h | h
          · exact hk.out j a h
          · rw [show j = (i + k').toNat by omega, ← hd]; exact hL)
        rw [hL] at cN
        clear hd hL hk
        go_wp2_with fail
        refine (cN _).mono ?_; rintro e w' ⟨rfl, h'⟩; rw [h']
        go_wp2
        go_round
        case rel => exact ⟨k' + 1, rfl, by omega, by omega, hk2⟩
        case measure => simp [intOf]; omega
    · obtain rfl : k' = s.size - i := by omega
      have hp := hid (piece_row (k := s.size) hil (by omega) (by omega) hsk.out (fun j a b => hk.out j a (by omega)) (fun _ h => by omega) (fun h => by rw [HC.out] at h; cases h))
      have hG : Hid (N = s.size) := hid (by rw [hN.out]; unfold ends; rw [hp.out]; omega)
      clear hk hp
      go_wp2
      go_ret
      exact ⟨ret_i hG.out.symm, rfl⟩
theorem end_lone (s : ByteArray) (i : Int) (w : World) (hs : s.size ≤ 1000000) (i0 : 0 ≤ i) (i1 : i < s.size) (h35 : s.data.toList.getD i.toNat 0 ≠ 35) (hc : isLt (s.data.toList.getD i.toNat 0) = false) :
    Calls Tryd.prog 18 #[.string s, .int .i64 i] w fun e w' => e = .returned (.int .i64 (ends s.data.toList i.toNat)) ∧ w' = w := by
  have hb0 := fun W => R4.byte_at s i i0 i1 W
  have hz : s.data.toList.length = s.size := by simp
  have hx0 := ltI_of (s.data.toList.getD i.toNat 0)
  rw [hc] at hx0
  have hN := hid (piece_lone (by omega) h35 hc)
  have hx35 : ((s.data.toList.getD i.toNat 0).toNat : Int) ≠ 35 := fun h => h35 (UInt8.toNat_inj.1 (by show _ = 35; omega))
  obtain ⟨x, hx⟩ : ∃ x : Int, x = ((s.data.toList.getD i.toNat 0).toNat : Int) := ⟨_, rfl⟩
  rw [← hx] at hx0 hx35
  simp only [← hx] at hb0
  have b35 : (x == 35) = false := beq_eq_false_iff_ne.2 hx35
  have cX := fun W => inRow_any x W
  rw [hx0] at cX
  have hE : Hid ((ends s.data.toList i.toNat : Int) = i + 1) := hid (by rw [hN.out]; omega)
  clear hx0 hx35 hx hN hc h35
  generalize (ends s.data.toList i.toNat : Int) = N at *
  go_enter Tryd.func18, Tryd.ntmps18
  go_wp2_with (go_at_call 32; refine (cX _).mono ?_; rintro e w' ⟨rfl, h'⟩; rw [h'])
  go_ret
  exact ⟨ret_i hE.out.symm, rfl⟩
/-- Where the piece that begins at a place ends. -/
theorem end_any (s : ByteArray) (i : Int) (w : World) (hs : s.size ≤ 1000000) (i0 : 0 ≤ i) (i1 : i < s.size) :
    Calls Tryd.prog 18 #[.string s, .int .i64 i] w fun e w' => e = .returned (.int .i64 (ends s.data.toList i.toNat)) ∧ w' = w := by
  by_cases h35 : s.data.toList.getD i.toNat 0 = 35
  · exact end_note s i w hs i0 i1 h35
  · cases hc : isLt (s.data.toList.getD i.toNat 0)
    · exact end_lone s i w hs i0 i1 h35 hc
    · exact end_row s i w hs i0 i1 hc
end Go.Proofs.YtinadkgfhoibkaaDoor.Le
/- What package lex does: of what kind letters are. -/
namespace Go.Proofs.YtinadkgfhoibkaaDoor.Le
open Go.RowKit P R4 R5

theorem day_any (s : ByteArray) (w : World) : Calls Tryd.prog 37 #[.string s] w fun e w' => e = .returned (.bool (reads s.data.toList)) ∧ Below w.heap.size w w' := by
  have cP := fun W => Dt.parse_any s W
  unfold dv at cP
  cases hr : reads s.data.toList
  · simp only [hr, Bool.false_eq_true, if_false] at cP
    go_enter Tryd.func37, Tryd.ntmps37
    go_wp2_with (go_at_call 42; refine (cP _).mono ?_; rintro e w1 ⟨rfl, b1⟩)
    go_ret
    first
      | exact ⟨rfl, b1⟩
      | exact ⟨rfl, b1.alloc b1.size _⟩
  · simp only [hr, if_true] at cP
    generalize yearOf s.data.toList = Y at *
    generalize monthOf s.data.toList = M at *
    generalize dayOf s.data.toList = D at *
    go_enter Tryd.func37, Tryd.ntmps37
    go_wp2_with (go_at_call 42; refine (cP _).mono ?_; rintro e w1 ⟨rfl, b1⟩)
    go_ret
    first
      | exact ⟨rfl, b1⟩
      | exact ⟨rfl, b1.alloc b1.size _⟩
set_option maxHeartbeats 1000000 in
theorem of_any (s : ByteArray) (w : World) (k : Dc.Mx w) (hs : s.size ≤ 1000000) : Calls Tryd.prog 20 #[.string s] w fun e w' => e = .returned (.int .i64 (kd s.data.toList)) ∧ Below w.heap.size w w' := by
  have cS := fun W => sign_any s W
  have cW := fun W => word_any s W
  have cN := fun W => name_any s W hs
  have cF := Dc.of_mx s w k hs
  have cD := fun W => day_any s W
  rw [kd_kw]
  generalize sgn s.data.toList = a at *
  generalize words.contains s.data.toList = b at *
  generalize nm s.data.toList = c at *
  generalize reads s.data.toList = d at *
  generalize fm s.data.toList = f at *
  obtain ⟨F, hF⟩ : ∃ F : Int, F = (f : Int) := ⟨_, rfl⟩
  rw [← hF] at cF
  cases a
  · cases b
    · cases c
      · by_cases hf : f = 0
        · subst hf
          obtain rfl : F = 0 := hF
          cases d
          all_goals
            go_enter Tryd.func20, Tryd.ntmps20
            go_wp2_with (first
              | (go_at_call 33; refine (cS _).mono ?_; rintro e w' ⟨rfl, h'⟩; rw [h'])
              | (go_at_call 34; refine (cW _).mono ?_; rintro e w' ⟨rfl, h'⟩; rw [h'])
              | (go_at_call 35; refine (cN _).mono ?_; rintro e w' ⟨rfl, h'⟩; rw [h'])
              | (go_at_call 36; refine cF.mono ?_; rintro e w1 ⟨rfl, b1⟩)
              | (go_at_call 37; go_loud (refine (cD _).mono ?_; rintro e w2 ⟨rfl, b2⟩; have B2 := b1.trans (b2.mono b1.size))))
            go_ret
            exact ⟨rfl, B2⟩
        · have hb : (F != 0) = true := bne_iff_ne.2 (by omega)
          have hk : Hid (kw false false false f d = 3) := hid (by unfold kw; rw [if_neg (by decide), if_neg (by decide), if_neg (by decide), if_pos hf])
          clear hf hF
          go_enter Tryd.func20, Tryd.ntmps20
          go_wp2_with (first
            | (go_at_call 33; refine (cS _).mono ?_; rintro e w' ⟨rfl, h'⟩; rw [h'])
            | (go_at_call 34; refine (cW _).mono ?_; rintro e w' ⟨rfl, h'⟩; rw [h'])
            | (go_at_call 35; refine (cN _).mono ?_; rintro e w' ⟨rfl, h'⟩; rw [h'])
            | (go_at_call 36; refine cF.mono ?_; rintro e w1 ⟨rfl, b1⟩))
          go_ret
          exact ⟨ret_i (by rw [hk.out]; rfl), b1⟩
      · clear cF cD
        go_enter Tryd.func20, Tryd.ntmps20
        go_wp2_with (first
          | (go_at_call 33; refine (cS _).mono ?_; rintro e w' ⟨rfl, h'⟩; rw [h'])
          | (go_at_call 34; refine (cW _).mono ?_; rintro e w' ⟨rfl, h'⟩; rw [h'])
          | (go_at_call 35; refine (cN _).mono ?_; rintro e w' ⟨rfl, h'⟩; rw [h']))
        go_ret
        exact ⟨rfl, Below.refl _ _⟩
    · clear cF cD cN
      go_enter Tryd.func20, Tryd.ntmps20
      go_wp2_with (first
        | (go_at_call 33; refine (cS _).mono ?_; rintro e w' ⟨rfl, h'⟩; rw [h'])
        | (go_at_call 34; refine (cW _).mono ?_; rintro e w' ⟨rfl, h'⟩; rw [h']))
      go_ret
      exact ⟨rfl, Below.refl _ _⟩
  · clear cF cD cN cW
    go_enter Tryd.func20, Tryd.ntmps20
    go_wp2_with (go_at_call 33; refine (cS _).mono ?_; rintro e w' ⟨rfl, h'⟩; rw [h'])
    go_ret
    exact ⟨rfl, Below.refl _ _⟩
end Go.Proofs.YtinadkgfhoibkaaDoor.Le
